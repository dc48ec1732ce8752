import Derived.Test.YtghcololkgeoeaaPartB0
namespace Go.Proofs.Ytghcololkgeoeaa
open Go.RowKit
set_option linter.unusedVariables false
set_option linter.unusedSimpArgs false
attribute [local go_sem ↓] Go.wp_at_zero Go.wp_at_succ

theorem allM_new (w : World) (m : Ev) (k : Nat) (hk : k ≤ maxLen) : AllM (w.alloc (.cells (evs (List.replicate k m)).toArray 36)) m ⟨some ⟨w.heap.size, 0, none⟩, k, k⟩ := by
  have hb := blk_alloc w (evs (List.replicate k m)) 36
  unfold Blk at hb
  refine ⟨evs_rep_len m k, Or.inr ⟨w.heap.size, k, _, rfl, Nat.zero_le _, hb, Nat.le_refl _, hk, ?_, ?_⟩⟩
  · simp only [List.size_toArray]; exact evs_rep_len m k
  · simp only; rw [List.take_of_length_le (by rw [evs_rep_len]; omega)]
theorem AllM.news {w : World} {m : Ev} {g k c : Nat} (h : AllM w m ⟨some ⟨g, 0, none⟩, k, c⟩) (hk : 0 < k) : ∀ j u, (evs (List.replicate k m))[j]? = some u → w.cell? ((⟨g, 0, none⟩ : Addr).add j) = some u := by
  intro j u hu
  have hlt := (List.getElem?_eq_some_iff.1 hu).1
  rw [evs_rep_len] at hlt
  obtain ⟨g', hg', _, _, hcell, _⟩ := h.form (by simp only; omega)
  simp only [Option.some.injEq, Addr.mk.injEq, and_true] at hg'
  subst hg'
  have := hcell j (by simp only; omega)
  rw [hu] at this
  have hz : (⟨g, 0, none⟩ : Addr).add j = ⟨g, j, none⟩ := by simp [Addr.add]; intro h; exact h.symm
  rw [hz]; exact this
theorem Lists.lfp_lt {w : World} {a : Option Addr} {c : Nat} {l : List El} (h : Lists w a c l) : ∀ k, some k ∈ lfp l → k < w.heap.size := by
  intro k hk
  simp only [lfp, List.mem_flatMap] at hk
  obtain ⟨e, he, hk⟩ := hk
  obtain ⟨i, hi, rfl⟩ := List.mem_iff_getElem.1 he
  have ho := h.each i _ (List.getElem?_eq_getElem hi)
  simp only [El.fp, List.mem_cons, List.mem_map] at hk
  rcases hk with hk | ⟨s, hs, hk⟩
  · exact ho.row.lt hk.symm
  · exact Row.lt (ho.each s hs).1 hk
/-- what own leaves -/
def Owned (w w' : World) (wb : Nat) (xv rv : Value) (a sa : Option Addr) (l : List El) : Prop := ∃ (a' : Option Addr) (c' : Nat) (E : El),
  Blk w' wb 56 [xv, rv, .slice a' (l.length + 1) c', .slice none 0 0, .slice none 0 0] ∧ Lists w' a' c' (l ++ [E]) ∧ Kept (fun k => k = wb ∨ bk a = some k ∨ bk sa = some k) w w' ∧
  (∀ k, some k ∈ E.fp → bk sa = some k ∨ w.heap.size ≤ k) ∧ (∀ k, bk a' = some k → bk a = some k ∨ w.heap.size ≤ k) ∧ (∀ k, bk a' = some k → some k ∉ lfp (l ++ [E]))
theorem own_close {w w3 W w1 : World} {wb : Nat} {xv rv : Value} {a sa : Option Addr} {c sc n gg cap : Nat} {l : List El} {EE : Ev} {r1 r2 r3 : Sl}
    (hb3 : Below w.heap.size w w3) (hB : Blk w wb 56 [xv, rv, .slice a l.length c, .slice none 0 0, .slice none 0 0]) (hL : Lists w a c l) (hsl : ∀ k, bk sa = some k → k < w.heap.size)
    (d1 : bk sa ≠ some wb) (d2 : ∀ k, bk sa = some k → bk a ≠ some k ∧ some k ∉ lfp l) (d3 : bk a ≠ some wb) (d4 : some wb ∉ lfp l) (d5 : ∀ k, bk a = some k → some k ∉ lfp l)
    (hK' : Kept (fun b => bk sa = some b) w3 W) (hEE : EE = markEv l.length) (A0 : AllM W EE ⟨sa, n, sc⟩) (A1 : AllM W EE r1) (A2 : AllM W EE r2) (A3 : AllM W EE r3) (N1 : r1.n = n + 1) (N2 : r2.n = n + 2) (N3 : r3.n = n + 6) (hn : n ≤ 1000)
    (T1 : ∀ b, bk r1.a = some b → bk sa = some b ∨ w3.heap.size ≤ b) (T2 : ∀ b, bk r2.a = some b → bk sa = some b ∨ w3.heap.size ≤ b) (T3 : ∀ b, bk r3.a = some b → bk sa = some b ∨ w3.heap.size ≤ b)
    (hown1 : w1.ownsRow 0 99 1 (.slice (some ⟨gg, 0, none⟩) (l.length + 1) cap) (l.length + 1) (l.map El.val ++ [.slice (some ⟨W.heap.size, 0, none⟩) 4 4]))
    (hgrow : ((W.alloc (.cells #[.slice sa n sc, .slice r1.a r1.n r1.c, .slice r2.a r2.n r2.c, .slice r3.a r3.n r3.c] 59)).alloc (.cells #[.slice (some ⟨W.heap.size, 0, none⟩) 4 4] 99)).grownBy w1 (Value.slice a l.length c).ownBlock)
    (hat : (Value.slice a l.length c).ownBlock = some gg ∨ gg = W.heap.size + 2) : Owned w (w1.setCell ⟨wb, 2, none⟩ (.slice (some ⟨gg, 0, none⟩) (l.length + 1) cap)) wb xv rv a sa l := by
  rw [bk_own] at hgrow hat
  have hK : Kept (fun b => bk sa = some b ∨ bk a = some b) w3 W := hK'.mono (fun k _ e => Or.inl e)
  have hwbl := hB.lt
  have hal : ∀ k, bk a = some k → k < w.heap.size := fun k e => hL.row.lt e
  have hll := hL.lfp_lt
  have s3 := hb3.size
  have sW := hK.size
  have K1 : Kept (fun b => bk sa = some b ∨ bk a = some b) w3 w1 := ((hK.alloc _).alloc _).grown hgrow (fun k _ e => Or.inr e)
  have Kw : Kept (fun b => bk sa = some b ∨ bk a = some b) w w1 := (below_kept hb3 _).trans K1
  have K' : Kept (fun k => k = wb ∨ bk a = some k ∨ bk sa = some k) w (w1.setCell ⟨wb, 2, none⟩ (.slice (some ⟨gg, 0, none⟩) (l.length + 1) cap)) :=
    (Kw.mono (S' := fun k => k = wb ∨ bk a = some k ∨ bk sa = some k) (fun k _ e => e.elim (fun e => Or.inr (Or.inr e)) (fun e => Or.inr (Or.inl e)))).setCell (fun _ => Or.inl rfl) _
  have KW : Kept (fun b => bk a = some b) W w1 := (((Kept.refl (fun b => bk a = some b) W).alloc _).alloc _).grown hgrow (fun k _ e => e)
  have KW' : Kept (fun b => bk a = some b ∨ b = wb) W (w1.setCell ⟨wb, 2, none⟩ (.slice (some ⟨gg, 0, none⟩) (l.length + 1) cap)) := (KW.mono (S' := fun b => bk a = some b ∨ b = wb) (fun k _ e => Or.inl e)).setCell (fun _ => Or.inr rfl) _
  have hggwb : gg ≠ wb := by
    intro e
    rcases hat with hat | hat
    · exact d3 (by rw [hat, e])
    · omega
  have fr : ∀ r : Sl, AllM W EE r → (∀ b, bk r.a = some b → bk sa = some b ∨ w3.heap.size ≤ b) → Row (w1.setCell ⟨wb, 2, none⟩ (.slice (some ⟨gg, 0, none⟩) (l.length + 1) cap)) 36 5 r.a r.n r.c (evs (List.replicate r.n EE)) := by
    intro r hr ht
    refine Row.kept hr KW' (fun k e f => ?_)
    rcases f with f | f
    · rcases ht k e with g | g
      · exact (d2 k g).1 f
      · have := hal k f; omega
    · subst f
      rcases ht k e with g | g
      · exact d1 g
      · omega
  refine ⟨some ⟨gg, 0, none⟩, cap, ⟨some ⟨W.heap.size, 0, none⟩, 4, [⟨sa, n, sc⟩, r1, r2, r3]⟩, ?_, ⟨?_, ?_⟩, K', ?_, ?_, ?_⟩
  · have := (hB.kept Kw (fun e => e.elim (fun e => d1 e) (fun e => d3 e))).set 2 (.slice (some ⟨gg, 0, none⟩) (l.length + 1) cap)
    simpa using this
  · have := Row.other (a := some ⟨gg, 0, none⟩) hown1 (b := wb) (o := 2) (by simp [bk]; exact hggwb) (.slice (some ⟨gg, 0, none⟩) (l.length + 1) cap)
    rw [List.map_append, List.length_append]
    exact this
  · intro i e he
    rw [List.getElem?_append] at he
    split at he
    · refine (hL.each i e he).kept K' (fun k hk f => ?_)
      have hk' : some k ∈ lfp l := by simp only [lfp, List.mem_flatMap]; exact ⟨e, List.mem_of_getElem? he, hk⟩
      rcases f with f | f | f
      · subst f; exact d4 hk'
      · exact d5 k f hk'
      · exact (d2 k f).2 hk'
    · rename_i hge
      have hi : i = l.length := by
        have := (List.getElem?_eq_some_iff.1 he).1
        simp at this; omega
      subst hi
      simp only [Nat.sub_self, List.getElem?_cons_zero, Option.some.injEq] at he
      subst he
      rw [← hEE]
      refine ⟨?_, by simp, ?_⟩
      · have hb := blk_alloc W [.slice sa n sc, .slice r1.a r1.n r1.c, .slice r2.a r2.n r2.c, .slice r3.a r3.n r3.c] 59
        have hb1 : Blk w1 W.heap.size 59 [.slice sa n sc, .slice r1.a r1.n r1.c, .slice r2.a r2.n r2.c, .slice r3.a r3.n r3.c] := (hb.alloc _).grown hgrow (fun e => by have := hal _ e; omega)
        have hb2 := hb1.other (a := ⟨wb, 2, none⟩) (by simp only; omega) (.slice (some ⟨gg, 0, none⟩) (l.length + 1) cap)
        unfold Blk at hb2
        refine ⟨by simp, Or.inr ⟨W.heap.size, 4, _, rfl, Nat.zero_le _, hb2, Nat.le_refl _, by unfold maxLen; omega, by simp, by simp [Sl.val]⟩⟩
      · intro s hs
        simp only [List.mem_cons, List.not_mem_nil, or_false] at hs
        rcases hs with rfl | rfl | rfl | rfl
        · exact ⟨fr _ A0 (fun b hb => Or.inl hb), by simp only; omega⟩
        · exact ⟨fr _ A1 T1, by omega⟩
        · exact ⟨fr _ A2 T2, by omega⟩
        · exact ⟨fr _ A3 T3, by omega⟩
  · intro k hk
    simp only [El.fp, List.map_cons, List.map_nil, List.mem_cons, List.not_mem_nil, or_false] at hk
    rcases hk with hk | hk | hk | hk | hk
    · simp only [bk, Option.map_some, Option.some.injEq] at hk; right; omega
    · exact Or.inl hk.symm
    · rcases T1 k hk.symm with e | e
      · exact Or.inl e
      · right; omega
    · rcases T2 k hk.symm with e | e
      · exact Or.inl e
      · right; omega
    · rcases T3 k hk.symm with e | e
      · exact Or.inl e
      · right; omega
  · intro k hk
    simp only [bk, Option.map_some, Option.some.injEq] at hk
    subst hk
    rcases hat with e | e
    · exact Or.inl e
    · right; omega
  · intro k hk hm
    simp only [bk, Option.map_some, Option.some.injEq] at hk
    subst hk
    simp only [lfp, List.flatMap_append, List.mem_append, List.flatMap_cons, List.flatMap_nil, List.append_nil] at hm
    have hne : ∀ r : Sl, AllM W EE r → (∀ b, bk r.a = some b → bk sa = some b ∨ w3.heap.size ≤ b) → bk r.a ≠ some gg := by
      intro r hr ht e
      have hlt := Row.lt hr e
      rcases hat with f | f
      · rcases ht _ e with g | g
        · exact (d2 _ g).1 f
        · have := hal _ f; omega
      · omega
    rcases hm with hm | hm
    · rcases hat with f | f
      · exact d5 _ f hm
      · have := hll _ hm; omega
    · simp only [El.fp, List.map_cons, List.map_nil, List.mem_cons, List.not_mem_nil, or_false] at hm
      rcases hm with hm | hm | hm | hm | hm
      · simp only [bk, Option.map_some, Option.some.injEq] at hm
        rcases hat with f | f
        · have := hal _ f; omega
        · omega
      · exact hne _ A0 (fun b hb => Or.inl hb) hm.symm
      · exact hne _ A1 T1 hm.symm
      · exact hne _ A2 T2 hm.symm
      · exact hne _ A3 T3 hm.symm
theorem Try.infoEvents : (Try.prog.info? 99).map (fun i => (i.zero, i.size, i.bytes)) = some (some (.agg #[.slice none 0 0]), 1, 24) := by kernel_rfl
theorem rep_drop (L : List Ev) (E : Ev) (k : Nat) (hk : k < L.length) : (List.replicate k E ++ L.drop k).set k E = List.replicate (k + 1) E ++ L.drop (k + 1) := by
  rw [List.set_append_right _ _ (by simp), List.length_replicate, Nat.sub_self, List.drop_eq_getElem_cons hk, List.set_cons_zero, List.replicate_succ', List.append_assoc]
  rfl

set_option maxRecDepth 100000 in
set_option maxHeartbeats 16000000 in
theorem own_any (wb : Nat) (xv rv : Value) (a : Option Addr) (c : Nat) (l : List El) (sa : Option Addr) (sc : Nat) (L : List Ev) (w : World)
    (hB : Blk w wb 56 [xv, rv, .slice a l.length c, .slice none 0 0, .slice none 0 0]) (hL : Lists w a c l) (hl : l.length ≤ 5000000000000) (hr : Row w 36 5 sa L.length sc (evs L)) (hs : L.length ≤ 1000)
    (d1 : bk sa ≠ some wb) (d2 : ∀ k, bk sa = some k → bk a ≠ some k ∧ some k ∉ lfp l) (d3 : bk a ≠ some wb) (d4 : some wb ∉ lfp l) (d5 : ∀ k, bk a = some k → some k ∉ lfp l) :
    Calls Try.prog 22 #[.pointer (some ⟨wb, 0, none⟩), .slice sa L.length sc] w fun e w' => e = .returned (.tuple #[]) ∧ Owned w w' wb xv rv a sa l := by
  obtain ⟨j0, hj0, hy0, hy1, hy2⟩ := info_parts Try.infoEv
  obtain ⟨e0, he0, hu0, hu1, hu2⟩ := info_parts Try.infoEvents
  have HB0 : Hid (Blk w wb 56 [xv, rv, .slice a l.length c, .slice none 0 0, .slice none 0 0]) := hB
  have HL : Hid (Lists w a c l) := hL
  have HR : Hid (Row w 36 5 sa L.length sc (evs L)) := hr
  have HSL : Hid (∀ k, bk sa = some k → k < w.heap.size) := fun k e => hr.lt e
  have D1 : Hid (bk sa ≠ some wb) := d1
  have D2 : Hid (∀ k, bk sa = some k → bk a ≠ some k ∧ some k ∉ lfp l) := d2
  have D3 : Hid (bk a ≠ some wb) := d3
  have D4 : Hid (some wb ∉ lfp l) := d4
  have D5 : Hid (∀ k, bk a = some k → some k ∉ lfp l) := d5
  have b2 := hB.cell 2
  simp only [List.getElem?_cons_zero, List.getElem?_cons_succ] at b2
  have hwb := hB.lt
  have HAL : Hid (∀ k, bk a = some k → k < w.heap.size) := fun k e => hL.row.lt e
  clear hB hL hr d1 d2 d3 d4 d5
  obtain ⟨EE, HEE⟩ := hex (markEv l.length)
  have hmk : ∀ u, Calls Try.prog 38 #[.int .i64 l.length] u fun e w' => e = .returned EE.agg ∧ Below u.heap.size u w' ∧ w'.heap.size = u.heap.size + 1 := by
    intro u; rw [HEE.out]; exact marked_any l.length u (by omega) (by omega)
  go_enter Try.func22, Try.ntmps22
  go_upto_region 1 with (go_at_call 38; refine (hmk _).mono ?_; rintro e w2 ⟨rfl, hb2, hsz2⟩; unfold Ev.agg)
  obtain ⟨w3, HW3⟩ := hex (w2.alloc (.cells EE.vals.toArray 36))
  have hw3 : w2.alloc (.cells #[.int .i64 EE.src, .int .i64 EE.seq, .int .i64 EE.ts, .int .i64 EE.kind, .int .i64 EE.val] 36) = w3 := HW3.out.symm
  rw [hw3]
  have HBw : Hid (Below w.heap.size w w3) := by show Below _ _ _; rw [HW3.out]; exact hb2.alloc (by omega) _
  obtain ⟨mb, HMb⟩ := hex (w.heap.size + 1)
  have HMB : Hid (mb = w.heap.size + 1) := HMb.out
  have HM3 : Hid (Blk w3 mb 36 EE.vals) := by show Blk _ _ _ _; rw [HW3.out, HMb.out, ← hsz2]; exact blk_alloc _ _ _
  rw [← HMb.out]
  clear hw3 HW3 hb2 HMb hsz2 b2 hmk
  have HB3 : Hid (Blk w3 wb 56 [xv, rv, .slice a l.length c, .slice none 0 0, .slice none 0 0]) := HB0.out.below HBw.out hwb
  have HL3 : Hid (Lists w3 a c l) := HL.out.heap (fun k hk => HBw.out.block k hk)
  have HDw : Hid (¬ (bk sa = some wb ∨ bk a = some wb)) := fun e => e.elim (fun e => D1.out e) (fun e => D3.out e)
  have HDm : Hid (¬ (bk sa = some mb ∨ bk a = some mb)) := fun e => e.elim (fun e => by have := HSL.out _ e; have := HMB.out; omega) (fun e => by have := HAL.out _ e; have := HMB.out; omega)
  go_wp2
  go_loopw [5] (fun i wr => ∃ k : Nat, k ≤ L.length ∧ i = .int .i64 k ∧ Row wr 36 5 sa L.length sc (evs (List.replicate k EE ++ L.drop k)) ∧ Kept (fun b => bk sa = some b) w3 wr) (fun i _ => L.length - (intOf i).toNat)
  case atStart => exact ⟨0, Nat.zero_le _, rfl, by simpa using ownsRow_of_heap HR.out (fun k hk => HBw.out.block k hk), Kept.refl _ _⟩
  case round =>
    obtain ⟨k, hk, rfl, hrow, hkept⟩ := hrel
    have HRk : Hid (Row wr 36 5 sa L.length sc (evs (List.replicate k EE ++ L.drop k))) := hrow
    have HKwr : Hid (Kept (fun b => bk sa = some b) w3 wr) := hkept
    clear hrow hkept
    have HMr : Hid (Blk wr mb 36 EE.vals) := HM3.out.kept HKwr.out (fun e => HDm.out (Or.inl e))
    have m0 := HMr.out.cell 0
    have m1 := HMr.out.cell 1
    have m2 := HMr.out.cell 2
    have m3 := HMr.out.cell 3
    have m4 := HMr.out.cell 4
    simp only [Ev.vals, List.getElem?_cons_zero, List.getElem?_cons_succ] at m0 m1 m2 m3 m4
    by_cases hlt : k < L.length
    · have hlt' : (k : Int) < (L.length : Int) := by omega
      have hk0 : (0 : Int) ≤ (k : Int) := by omega
      have hll : (List.replicate k EE ++ L.drop k).length = L.length := by simp; omega
      have HRl : Hid (Row wr 36 5 sa (List.replicate k EE ++ L.drop k).length sc (evs (List.replicate k EE ++ L.drop k))) := by show Row _ _ _ _ _ _ _; rw [hll]; exact HRk.out
      obtain ⟨g, hg, hnc, x0, x1, x2, x3, x4⟩ := evRow_cells HRl.out k (by omega)
      have hfz : ∀ j, wr.frozen? ⟨g, j, none⟩ = false := by
        obtain ⟨g', hg', _, _, _, hf⟩ := HRk.out.form (by omega)
        rw [hg] at hg'
        simp only [Option.some.injEq, Addr.mk.injEq, and_true] at hg'
        rw [hg']; exact hf
      have f0 := hfz (k * 5)
      have f1 := hfz (k * 5 + 1)
      have f2 := hfz (k * 5 + 2)
      have f3 := hfz (k * 5 + 3)
      have f4 := hfz (k * 5 + 4)
      have hgm : g ≠ mb := fun e => HDm.out (Or.inl (by rw [hg, ← e]; rfl))
      have HG : Hid (sa = some ⟨g, 0, none⟩) := hg
      rw [hg]
      rw [hll] at hnc
      obtain ⟨Y, HY⟩ := hex ((List.replicate k EE ++ L.drop k)[k]'(by omega))
      rw [← HY.out] at x0 x1 x2 x3 x4
      clear hg hfz HY hll
      go_wp2
      go_roundw
      case rel =>
        refine ⟨k + 1, by omega, by go_num, ?_, ?_⟩
        · have := (Row.setEv (k := k) (E := EE) (M := List.replicate k EE ++ L.drop k) (by have := HRk.out; rw [HG.out] at this; exact this) (by simp; omega))
          rw [rep_drop L EE k hlt] at this
          exact this
        · have hkk := HKwr.out
          rw [HG.out] at hkk
          exact kept_setEv hkk (fun _ => rfl)
      case measure => simp [intOf]; omega
    · obtain rfl : k = L.length := by omega
      have HAl0 : Hid (AllM wr EE ⟨sa, L.length, sc⟩) := by show AllM _ _ _; unfold AllM; simpa using HRk.out
      clear HRk
      have b2 := (HB3.out.kept HKwr.out (fun e => HDw.out (Or.inl e))).cell 2
      simp only [List.getElem?_cons_zero, List.getElem?_cons_succ] at b2
      have HS2 : Hid (∀ v : World, Kept (fun b => bk sa = some b ∨ bk a = some b) w3 v → (fun u : World => u.cell? ⟨wb, 2, none⟩ = some (.slice a l.length c) ∧ u.cell? ⟨mb, 0, none⟩ = some (.int .i64 EE.src) ∧ u.cell? ⟨mb, 1, none⟩ = some (.int .i64 EE.seq) ∧ u.cell? ⟨mb, 2, none⟩ = some (.int .i64 EE.ts) ∧ u.cell? ⟨mb, 3, none⟩ = some (.int .i64 EE.kind) ∧ u.cell? ⟨mb, 4, none⟩ = some (.int .i64 EE.val)) v) := by
        intro v hv
        have hB := HB3.out.kept hv HDw.out
        have hM := HM3.out.kept hv HDm.out
        exact ⟨hB.cell 2, hM.cell 0, hM.cell 1, hM.cell 2, hM.cell 3, hM.cell 4⟩
      have HS : Hid (∀ v : World, Kept (fun b => bk sa = some b) w3 v → (fun u : World => u.cell? ⟨wb, 2, none⟩ = some (.slice a l.length c) ∧ u.cell? ⟨mb, 0, none⟩ = some (.int .i64 EE.src) ∧ u.cell? ⟨mb, 1, none⟩ = some (.int .i64 EE.seq) ∧ u.cell? ⟨mb, 2, none⟩ = some (.int .i64 EE.ts) ∧ u.cell? ⟨mb, 3, none⟩ = some (.int .i64 EE.kind) ∧ u.cell? ⟨mb, 4, none⟩ = some (.int .i64 EE.val)) v) := fun v hv => HS2.out v (hv.mono (fun k _ e => Or.inl e))
      go_upto_region 5 with fail
      refine upTo_region (fun u : World => u.cell? ⟨wb, 2, none⟩ = some (.slice a l.length c) ∧ u.cell? ⟨mb, 0, none⟩ = some (.int .i64 EE.src) ∧ u.cell? ⟨mb, 1, none⟩ = some (.int .i64 EE.seq) ∧ u.cell? ⟨mb, 2, none⟩ = some (.int .i64 EE.ts) ∧ u.cell? ⟨mb, 3, none⟩ = some (.int .i64 EE.kind) ∧ u.cell? ⟨mb, 4, none⟩ = some (.int .i64 EE.val)) 30 31 rfl (by kernel_rfl) ?_
      have hS0 : (fun u : World => u.cell? ⟨wb, 2, none⟩ = some (.slice a l.length c) ∧ u.cell? ⟨mb, 0, none⟩ = some (.int .i64 EE.src) ∧ u.cell? ⟨mb, 1, none⟩ = some (.int .i64 EE.seq) ∧ u.cell? ⟨mb, 2, none⟩ = some (.int .i64 EE.ts) ∧ u.cell? ⟨mb, 3, none⟩ = some (.int .i64 EE.kind) ∧ u.cell? ⟨mb, 4, none⟩ = some (.int .i64 EE.val)) wr.drew := HS.out _ HKwr.out.drew
      refine upTo_take (i := 0) (v := ?v5_0) rfl (by kernel_rfl) (by kernel_rfl) (by kernel_rfl) (by kernel_rfl) (by rfl) (fun _ _ _ h => h) (by rfl) hS0 ?hy5_0 ?rest5_0
      case hy5_0 => (intro u hu; (try dsimp only at hu); go_simp; first | done | with_reducible rfl)
      (try simp only [Act.put, List.setIfInBounds_toArray, List.set_cons_zero, List.set_cons_succ, List.getElem_toArray, List.getElem_cons_succ, List.getElem_cons_zero])
      refine upTo_take (i := 1) (v := ?v5_1) rfl (by kernel_rfl) (by kernel_rfl) (by kernel_rfl) (by kernel_rfl) (by rfl) (fun _ _ _ h => h) (by rfl) hS0 ?hy5_1 ?rest5_1
      case hy5_1 => (intro u hu; (try dsimp only at hu); go_simp; first | done | with_reducible rfl)
      (try simp only [Act.put, List.setIfInBounds_toArray, List.set_cons_zero, List.set_cons_succ, List.getElem_toArray, List.getElem_cons_succ, List.getElem_cons_zero])
      refine upTo_take (i := 2) (v := ?v5_2) rfl (by kernel_rfl) (by kernel_rfl) (by kernel_rfl) (by kernel_rfl) (by rfl) (fun _ _ _ h => h) (by rfl) hS0 ?hy5_2 ?rest5_2
      case hy5_2 => (intro u hu; (try dsimp only at hu); go_simp; first | done | with_reducible rfl)
      (try simp only [Act.put, List.setIfInBounds_toArray, List.set_cons_zero, List.set_cons_succ, List.getElem_toArray, List.getElem_cons_succ, List.getElem_cons_zero])
      refine upTo_take (i := 3) (v := ?v5_3) rfl (by kernel_rfl) (by kernel_rfl) (by kernel_rfl) (by kernel_rfl) (by rfl) (fun _ _ _ h => h) (by rfl) hS0 ?hy5_3 ?rest5_3
      case hy5_3 => (intro u hu; (try dsimp only at hu); go_simp; first | done | with_reducible rfl)
      (try simp only [Act.put, List.setIfInBounds_toArray, List.set_cons_zero, List.set_cons_succ, List.getElem_toArray, List.getElem_cons_succ, List.getElem_cons_zero])
      refine upTo_take (i := 4) (v := ?v5_4) rfl (by kernel_rfl) (by kernel_rfl) (by kernel_rfl) (by kernel_rfl) (by rfl) (fun _ _ _ h => h) (by rfl) hS0 ?hy5_4 ?rest5_4
      case hy5_4 => (intro u hu; (try dsimp only at hu); go_simp; first | done | with_reducible rfl)
      (try simp only [Act.put, List.setIfInBounds_toArray, List.set_cons_zero, List.set_cons_succ, List.getElem_toArray, List.getElem_cons_succ, List.getElem_cons_zero])
      refine upTo_take (i := 5) (v := ?v5_5) rfl (by kernel_rfl) (by kernel_rfl) (by kernel_rfl) (by kernel_rfl) (by rfl) (fun _ _ _ h => h) (by rfl) hS0 ?hy5_5 ?rest5_5
      case hy5_5 => (intro u hu; (try dsimp only at hu); go_simp; first | done | with_reducible rfl)
      (try simp only [Act.put, List.setIfInBounds_toArray, List.set_cons_zero, List.set_cons_succ, List.getElem_toArray, List.getElem_cons_succ, List.getElem_cons_zero])
      refine upTo_take (i := 6) (v := ?v5_6) rfl (by kernel_rfl) (by kernel_rfl) (by kernel_rfl) (by kernel_rfl) (by rfl) (fun _ _ _ h => h) (by rfl) hS0 ?hy5_6 ?rest5_6
      case hy5_6 => (intro u hu; (try dsimp only at hu); go_simp; first | done | with_reducible rfl)
      (try simp only [Act.put, List.setIfInBounds_toArray, List.set_cons_zero, List.set_cons_succ, List.getElem_toArray, List.getElem_cons_succ, List.getElem_cons_zero])
      refine upTo_take (i := 7) (v := ?v5_7) rfl (by kernel_rfl) (by kernel_rfl) (by kernel_rfl) (by kernel_rfl) (by rfl) (fun _ _ _ h => h) (by rfl) hS0 ?hy5_7 ?rest5_7
      case hy5_7 => (intro u hu; (try dsimp only at hu); go_simp; first | done | with_reducible rfl)
      (try simp only [Act.put, List.setIfInBounds_toArray, List.set_cons_zero, List.set_cons_succ, List.getElem_toArray, List.getElem_cons_succ, List.getElem_cons_zero])
      refine upTo_take (i := 10) (v := ?v5_10) rfl (by kernel_rfl) (by kernel_rfl) (by kernel_rfl) (by kernel_rfl) (by rfl) (fun _ _ _ h => h) (by rfl) hS0 ?hy5_10 ?rest5_10
      case hy5_10 => (intro u hu; (try dsimp only at hu); go_simp; first | done | with_reducible rfl)
      (try simp only [Act.put, List.setIfInBounds_toArray, List.set_cons_zero, List.set_cons_succ, List.getElem_toArray, List.getElem_cons_succ, List.getElem_cons_zero])
      refine upTo_take (i := 11) (v := ?v5_11) rfl (by kernel_rfl) (by kernel_rfl) (by kernel_rfl) (by kernel_rfl) (by rfl) (fun _ _ _ h => h) (by rfl) hS0 ?hy5_11 ?rest5_11
      case hy5_11 => (intro u hu; (try dsimp only at hu); go_simp; first | done | with_reducible rfl)
      (try simp only [Act.put, List.setIfInBounds_toArray, List.set_cons_zero, List.set_cons_succ, List.getElem_toArray, List.getElem_cons_succ, List.getElem_cons_zero])
      refine upTo_take (i := 12) (v := ?v5_12) rfl (by kernel_rfl) (by kernel_rfl) (by kernel_rfl) (by kernel_rfl) (by rfl) (fun _ _ _ h => h) (by rfl) hS0 ?hy5_12 ?rest5_12
      case hy5_12 => (intro u hu; (try dsimp only at hu); go_simp; first | done | with_reducible rfl)
      (try simp only [Act.put, List.setIfInBounds_toArray, List.set_cons_zero, List.set_cons_succ, List.getElem_toArray, List.getElem_cons_succ, List.getElem_cons_zero])
      refine upTo_take (i := 15) (v := ?v5_15) rfl (by kernel_rfl) (by kernel_rfl) (by kernel_rfl) (by kernel_rfl) (by rfl) (fun _ _ _ h => h) (by rfl) hS0 ?hy5_15 ?rest5_15
      case hy5_15 => (intro u hu; (try dsimp only at hu); go_simp; first | done | with_reducible rfl)
      (try simp only [Act.put, List.setIfInBounds_toArray, List.set_cons_zero, List.set_cons_succ, List.getElem_toArray, List.getElem_cons_succ, List.getElem_cons_zero])
      refine upTo_take (i := 16) (v := ?v5_16) rfl (by kernel_rfl) (by kernel_rfl) (by kernel_rfl) (by kernel_rfl) (by rfl) (fun _ _ _ h => h) (by rfl) hS0 ?hy5_16 ?rest5_16
      case hy5_16 => (intro u hu; (try dsimp only at hu); go_simp; first | done | with_reducible rfl)
      (try simp only [Act.put, List.setIfInBounds_toArray, List.set_cons_zero, List.set_cons_succ, List.getElem_toArray, List.getElem_cons_succ, List.getElem_cons_zero])
      refine upTo_take (i := 17) (v := ?v5_17) rfl (by kernel_rfl) (by kernel_rfl) (by kernel_rfl) (by kernel_rfl) (by rfl) (fun _ _ _ h => h) (by rfl) hS0 ?hy5_17 ?rest5_17
      case hy5_17 => (intro u hu; (try dsimp only at hu); go_simp; first | done | with_reducible rfl)
      (try simp only [Act.put, List.setIfInBounds_toArray, List.set_cons_zero, List.set_cons_succ, List.getElem_toArray, List.getElem_cons_succ, List.getElem_cons_zero])
      refine upTo_take (i := 18) (v := ?v5_18) rfl (by kernel_rfl) (by kernel_rfl) (by kernel_rfl) (by kernel_rfl) (by rfl) (fun _ _ _ h => h) (by rfl) hS0 ?hy5_18 ?rest5_18
      case hy5_18 => (intro u hu; (try dsimp only at hu); go_simp; first | done | with_reducible rfl)
      (try simp only [Act.put, List.setIfInBounds_toArray, List.set_cons_zero, List.set_cons_succ, List.getElem_toArray, List.getElem_cons_succ, List.getElem_cons_zero])
      refine upTo_take (i := 19) (v := ?v5_19) rfl (by kernel_rfl) (by kernel_rfl) (by kernel_rfl) (by kernel_rfl) (by rfl) (fun _ _ _ h => h) (by rfl) hS0 ?hy5_19 ?rest5_19
      case hy5_19 => (intro u hu; (try dsimp only at hu); go_simp; first | done | with_reducible rfl)
      (try simp only [Act.put, List.setIfInBounds_toArray, List.set_cons_zero, List.set_cons_succ, List.getElem_toArray, List.getElem_cons_succ, List.getElem_cons_zero])
      refine upTo_take (i := 20) (v := ?v5_20) rfl (by kernel_rfl) (by kernel_rfl) (by kernel_rfl) (by kernel_rfl) (by rfl) (fun _ _ _ h => h) (by rfl) hS0 ?hy5_20 ?rest5_20
      case hy5_20 => (intro u hu; (try dsimp only at hu); go_simp; first | done | with_reducible rfl)
      (try simp only [Act.put, List.setIfInBounds_toArray, List.set_cons_zero, List.set_cons_succ, List.getElem_toArray, List.getElem_cons_succ, List.getElem_cons_zero])
      refine upTo_take (i := 21) (v := ?v5_21) rfl (by kernel_rfl) (by kernel_rfl) (by kernel_rfl) (by kernel_rfl) (by rfl) (fun _ _ _ h => h) (by rfl) hS0 ?hy5_21 ?rest5_21
      case hy5_21 => (intro u hu; (try dsimp only at hu); go_simp; first | done | with_reducible rfl)
      (try simp only [Act.put, List.setIfInBounds_toArray, List.set_cons_zero, List.set_cons_succ, List.getElem_toArray, List.getElem_cons_succ, List.getElem_cons_zero])
      clear hS0 m0 m1 m2 m3 m4 b2
      obtain ⟨v0, HV0⟩ := hex wr.drew
      rw [← HV0.out]
      have HKv0 : Hid (Kept (fun b => bk sa = some b) w3 v0) := by show Kept _ _ _; rw [HV0.out]; exact HKwr.out.drew
      have HAlv0 : Hid (AllM v0 EE ⟨sa, L.length, sc⟩) := by show AllM _ _ _; rw [HV0.out]; exact HAl0.out
      have hhs : wr.heap.size = v0.heap.size := by rw [HV0.out]; rfl
      clear HV0 HAl0 HKwr HMr
      refine upTo_three (i := 8) (j := 13) (l := 22) (by kernel_rfl) rfl rfl rfl (fun K hK => ?_) (fun K hK => ?_) (fun K hK => ?_)
      · skip
        go_simp
        refine hK.out _ _ (fun _ => HS.out _ (HKv0.out.alloc _)) ?_
        clear hK K
        (try simp only [Act.put, List.setIfInBounds_toArray, List.set_cons_zero, List.set_cons_succ, List.getElem_toArray, List.getElem_cons_succ, List.getElem_cons_zero])
        obtain ⟨v1, HWv1⟩ := hex (v0.alloc (.cells (evs (List.replicate 1 EE)).toArray 36))
        have hwv1 : v0.alloc (.cells #[.int .i64 EE.src, .int .i64 EE.seq, .int .i64 EE.ts, .int .i64 EE.kind, .int .i64 EE.val] 36) = v1 := HWv1.out.symm
        rw [hwv1]
        have HKv1 : Hid (Kept (fun b => bk sa = some b) w3 v1) := by show Kept _ _ _; rw [HWv1.out]; exact HKv0.out.alloc _
        have HPv1 : Hid (∀ r, AllM v0 EE r → AllM v1 EE r) := by intro r hr; rw [HWv1.out]; exact AllM.kept hr ((Kept.refl (fun _ => False) v0).alloc _) (fun _ _ e => e)
        have HAb10 : Hid (AllM v1 EE ⟨some ⟨v0.heap.size, 0, none⟩, 1, 1⟩) := by show AllM _ _ _; rw [HWv1.out]; exact allM_new v0 EE 1 (by unfold maxLen; omega)
        clear HWv1 hwv1
        obtain ⟨g1, HG1⟩ := hex v0.heap.size
        rw [← HG1.out] at HAb10 ⊢
        have HAb1v1 : Hid (AllM v1 EE ⟨some ⟨g1, 0, none⟩, 1, 1⟩) := HAb10
        clear HAb10 HG1
        have HAlv1 : Hid (AllM v1 EE ⟨sa, L.length, sc⟩) := HPv1.out _ HAlv0.out
        refine upTo_three (i := 9) (j := 13) (l := 22) (by kernel_rfl) rfl rfl rfl (fun K hK => ?_) (fun K hK => ?_) (fun K hK => ?_)
        · skip
          refine step_append_marks (by rfl) _ _ _ (by rfl) j0 _ Try.underlying59 hj0 hy0 hy1 hy2 rfl EE ⟨sa, L.length, sc⟩ (by rfl) HAlv1.out ⟨g1, 0, none⟩ 1 1 (by rfl) (AllM.news HAb1v1.out (by omega)) (by omega) (by simp only; omega) ?_
          intro r1 v2 hn1 hra1 hpres1 hkp1 hat1
          refine hK.out _ _ (fun _ => HS.out _ (HKv1.out.trans hkp1)) ?_
          clear hK K
          unfold Sl.val
          (try simp only [Act.put, List.setIfInBounds_toArray, List.set_cons_zero, List.set_cons_succ, List.getElem_toArray, List.getElem_cons_succ, List.getElem_cons_zero])
          have HKv2 : Hid (Kept (fun b => bk sa = some b) w3 v2) := HKv1.out.trans hkp1
          have HPv2 : Hid (∀ r, AllM v1 EE r → AllM v2 EE r) := hpres1
          have HAr1v2 : Hid (AllM v2 EE r1) := hra1
          have HN1 : Hid (r1.n = L.length + 1) := hn1
          have HT1 : Hid (∀ b, bk r1.a = some b → bk sa = some b ∨ w3.heap.size ≤ b) := by
            intro b hb
            rcases hat1 with e | ⟨b', e, h1, _⟩
            · left; rw [← e]; exact hb
            · right; rw [e] at hb; simp only [Option.some.injEq] at hb; have := HKv1.out.size; omega
          clear hra1 hpres1 hkp1 hat1 hn1
          have HAlv2 : Hid (AllM v2 EE ⟨sa, L.length, sc⟩) := HPv2.out _ HAlv1.out
          have HAb1v2 : Hid (AllM v2 EE ⟨some ⟨g1, 0, none⟩, 1, 1⟩) := HPv2.out _ HAb1v1.out
          refine upTo_two (i := 13) (j := 22) (by kernel_rfl) rfl rfl (fun K hK => ?_) (fun K hK => ?_)
          · skip
            go_simp
            refine hK.out _ _ (fun _ => HS.out _ (HKv2.out.alloc _)) ?_
            clear hK K
            (try simp only [Act.put, List.setIfInBounds_toArray, List.set_cons_zero, List.set_cons_succ, List.getElem_toArray, List.getElem_cons_succ, List.getElem_cons_zero])
            obtain ⟨v3, HWv3⟩ := hex (v2.alloc (.cells (evs (List.replicate 2 EE)).toArray 36))
            have hwv3 : v2.alloc (.cells #[.int .i64 EE.src, .int .i64 EE.seq, .int .i64 EE.ts, .int .i64 EE.kind, .int .i64 EE.val, .int .i64 EE.src, .int .i64 EE.seq, .int .i64 EE.ts, .int .i64 EE.kind, .int .i64 EE.val] 36) = v3 := HWv3.out.symm
            rw [hwv3]
            have HKv3 : Hid (Kept (fun b => bk sa = some b) w3 v3) := by show Kept _ _ _; rw [HWv3.out]; exact HKv2.out.alloc _
            have HPv3 : Hid (∀ r, AllM v2 EE r → AllM v3 EE r) := by intro r hr; rw [HWv3.out]; exact AllM.kept hr ((Kept.refl (fun _ => False) v2).alloc _) (fun _ _ e => e)
            have HAb20 : Hid (AllM v3 EE ⟨some ⟨v2.heap.size, 0, none⟩, 2, 2⟩) := by show AllM _ _ _; rw [HWv3.out]; exact allM_new v2 EE 2 (by unfold maxLen; omega)
            clear HWv3 hwv3
            obtain ⟨g2, HG2⟩ := hex v2.heap.size
            rw [← HG2.out] at HAb20 ⊢
            have HAb2v3 : Hid (AllM v3 EE ⟨some ⟨g2, 0, none⟩, 2, 2⟩) := HAb20
            clear HAb20 HG2
            have HAlv3 : Hid (AllM v3 EE ⟨sa, L.length, sc⟩) := HPv3.out _ HAlv2.out
            have HAb1v3 : Hid (AllM v3 EE ⟨some ⟨g1, 0, none⟩, 1, 1⟩) := HPv3.out _ HAb1v2.out
            have HAr1v3 : Hid (AllM v3 EE r1) := HPv3.out _ HAr1v2.out
            refine upTo_two (i := 14) (j := 22) (by kernel_rfl) rfl rfl (fun K hK => ?_) (fun K hK => ?_)
            · skip
              refine step_append_marks (by rfl) _ _ _ (by rfl) j0 _ Try.underlying59 hj0 hy0 hy1 hy2 rfl EE ⟨sa, L.length, sc⟩ (by rfl) HAlv3.out ⟨g2, 0, none⟩ 2 2 (by rfl) (AllM.news HAb2v3.out (by omega)) (by omega) (by simp only; omega) ?_
              intro r2 v4 hn2 hra2 hpres2 hkp2 hat2
              refine hK.out _ _ (fun _ => HS.out _ (HKv3.out.trans hkp2)) ?_
              clear hK K
              unfold Sl.val
              (try simp only [Act.put, List.setIfInBounds_toArray, List.set_cons_zero, List.set_cons_succ, List.getElem_toArray, List.getElem_cons_succ, List.getElem_cons_zero])
              have HKv4 : Hid (Kept (fun b => bk sa = some b) w3 v4) := HKv3.out.trans hkp2
              have HPv4 : Hid (∀ r, AllM v3 EE r → AllM v4 EE r) := hpres2
              have HAr2v4 : Hid (AllM v4 EE r2) := hra2
              have HN2 : Hid (r2.n = L.length + 2) := hn2
              have HT2 : Hid (∀ b, bk r2.a = some b → bk sa = some b ∨ w3.heap.size ≤ b) := by
                intro b hb
                rcases hat2 with e | ⟨b', e, h1, _⟩
                · left; rw [← e]; exact hb
                · right; rw [e] at hb; simp only [Option.some.injEq] at hb; have := HKv3.out.size; omega
              clear hra2 hpres2 hkp2 hat2 hn2
              have HAlv4 : Hid (AllM v4 EE ⟨sa, L.length, sc⟩) := HPv4.out _ HAlv3.out
              have HAb1v4 : Hid (AllM v4 EE ⟨some ⟨g1, 0, none⟩, 1, 1⟩) := HPv4.out _ HAb1v3.out
              have HAb2v4 : Hid (AllM v4 EE ⟨some ⟨g2, 0, none⟩, 2, 2⟩) := HPv4.out _ HAb2v3.out
              have HAr1v4 : Hid (AllM v4 EE r1) := HPv4.out _ HAr1v3.out
              refine upTo_one (i := 22) (by kernel_rfl) rfl (fun K hK => ?_)
              go_simp
              refine hK.out _ _ (fun _ => HS.out _ (HKv4.out.alloc _)) ?_
              clear hK K
              (try simp only [Act.put, List.setIfInBounds_toArray, List.set_cons_zero, List.set_cons_succ, List.getElem_toArray, List.getElem_cons_succ, List.getElem_cons_zero])
              obtain ⟨v5, HWv5⟩ := hex (v4.alloc (.cells (evs (List.replicate 6 EE)).toArray 36))
              have hwv5 : v4.alloc (.cells #[.int .i64 EE.src, .int .i64 EE.seq, .int .i64 EE.ts, .int .i64 EE.kind, .int .i64 EE.val, .int .i64 EE.src, .int .i64 EE.seq, .int .i64 EE.ts, .int .i64 EE.kind, .int .i64 EE.val, .int .i64 EE.src, .int .i64 EE.seq, .int .i64 EE.ts, .int .i64 EE.kind, .int .i64 EE.val, .int .i64 EE.src, .int .i64 EE.seq, .int .i64 EE.ts, .int .i64 EE.kind, .int .i64 EE.val, .int .i64 EE.src, .int .i64 EE.seq, .int .i64 EE.ts, .int .i64 EE.kind, .int .i64 EE.val, .int .i64 EE.src, .int .i64 EE.seq, .int .i64 EE.ts, .int .i64 EE.kind, .int .i64 EE.val] 36) = v5 := HWv5.out.symm
              rw [hwv5]
              have HKv5 : Hid (Kept (fun b => bk sa = some b) w3 v5) := by show Kept _ _ _; rw [HWv5.out]; exact HKv4.out.alloc _
              have HPv5 : Hid (∀ r, AllM v4 EE r → AllM v5 EE r) := by intro r hr; rw [HWv5.out]; exact AllM.kept hr ((Kept.refl (fun _ => False) v4).alloc _) (fun _ _ e => e)
              have HAb30 : Hid (AllM v5 EE ⟨some ⟨v4.heap.size, 0, none⟩, 6, 6⟩) := by show AllM _ _ _; rw [HWv5.out]; exact allM_new v4 EE 6 (by unfold maxLen; omega)
              clear HWv5 hwv5
              obtain ⟨g3, HG3⟩ := hex v4.heap.size
              rw [← HG3.out] at HAb30 ⊢
              have HAb3v5 : Hid (AllM v5 EE ⟨some ⟨g3, 0, none⟩, 6, 6⟩) := HAb30
              clear HAb30 HG3
              have HAlv5 : Hid (AllM v5 EE ⟨sa, L.length, sc⟩) := HPv5.out _ HAlv4.out
              have HAb1v5 : Hid (AllM v5 EE ⟨some ⟨g1, 0, none⟩, 1, 1⟩) := HPv5.out _ HAb1v4.out
              have HAb2v5 : Hid (AllM v5 EE ⟨some ⟨g2, 0, none⟩, 2, 2⟩) := HPv5.out _ HAb2v4.out
              have HAr1v5 : Hid (AllM v5 EE r1) := HPv5.out _ HAr1v4.out
              have HAr2v5 : Hid (AllM v5 EE r2) := HPv5.out _ HAr2v4.out
              refine upTo_one (i := 23) (by kernel_rfl) rfl (fun K hK => ?_)
              refine step_append_marks (by rfl) _ _ _ (by rfl) j0 _ Try.underlying59 hj0 hy0 hy1 hy2 rfl EE ⟨sa, L.length, sc⟩ (by rfl) HAlv5.out ⟨g3, 0, none⟩ 6 6 (by rfl) (AllM.news HAb3v5.out (by omega)) (by omega) (by simp only; omega) ?_
              intro r3 v6 hn3 hra3 hpres3 hkp3 hat3
              refine hK.out _ _ (fun _ => HS.out _ (HKv5.out.trans hkp3)) ?_
              clear hK K
              unfold Sl.val
              (try simp only [Act.put, List.setIfInBounds_toArray, List.set_cons_zero, List.set_cons_succ, List.getElem_toArray, List.getElem_cons_succ, List.getElem_cons_zero])
              have HKv6 : Hid (Kept (fun b => bk sa = some b) w3 v6) := HKv5.out.trans hkp3
              have HPv6 : Hid (∀ r, AllM v5 EE r → AllM v6 EE r) := hpres3
              have HAr3v6 : Hid (AllM v6 EE r3) := hra3
              have HN3 : Hid (r3.n = L.length + 6) := hn3
              have HT3 : Hid (∀ b, bk r3.a = some b → bk sa = some b ∨ w3.heap.size ≤ b) := by
                intro b hb
                rcases hat3 with e | ⟨b', e, h1, _⟩
                · left; rw [← e]; exact hb
                · right; rw [e] at hb; simp only [Option.some.injEq] at hb; have := HKv5.out.size; omega
              clear hra3 hpres3 hkp3 hat3 hn3
              have HAlv6 : Hid (AllM v6 EE ⟨sa, L.length, sc⟩) := HPv6.out _ HAlv5.out
              have HAb1v6 : Hid (AllM v6 EE ⟨some ⟨g1, 0, none⟩, 1, 1⟩) := HPv6.out _ HAb1v5.out
              have HAb2v6 : Hid (AllM v6 EE ⟨some ⟨g2, 0, none⟩, 2, 2⟩) := HPv6.out _ HAb2v5.out
              have HAb3v6 : Hid (AllM v6 EE ⟨some ⟨g3, 0, none⟩, 6, 6⟩) := HPv6.out _ HAb3v5.out
              have HAr1v6 : Hid (AllM v6 EE r1) := HPv6.out _ HAr1v5.out
              have HAr2v6 : Hid (AllM v6 EE r2) := HPv6.out _ HAr2v5.out
              refine upTo_one (i := 24) (by kernel_rfl) rfl (fun K hK => ?_)
              go_simp
              refine hK.out _ _ (fun _ => HS.out _ (HKv6.out.alloc _)) ?_
              clear hK K
              (try simp only [Act.put, List.setIfInBounds_toArray, List.set_cons_zero, List.set_cons_succ, List.getElem_toArray, List.getElem_cons_succ, List.getElem_cons_zero])
              refine upTo_one (i := 25) (by kernel_rfl) rfl (fun K hK => ?_)
              go_simp
              refine hK.out _ _ (fun _ => HS.out _ (HKv6.out.alloc _)) ?_
              clear hK K
              (try simp only [Act.put, List.setIfInBounds_toArray, List.set_cons_zero, List.set_cons_succ, List.getElem_toArray, List.getElem_cons_succ, List.getElem_cons_zero])
              refine upTo_one (i := 26) (by kernel_rfl) rfl (fun K hK => ?_)
              go_simp
              refine hK.out _ _ (fun _ => HS.out _ ((HKv6.out.alloc _).alloc _)) ?_
              clear hK K
              (try simp only [Act.put, List.setIfInBounds_toArray, List.set_cons_zero, List.set_cons_succ, List.getElem_toArray, List.getElem_cons_succ, List.getElem_cons_zero])
              have HO4 : Hid (((v6.alloc (.cells #[.slice sa L.length sc, .slice r1.a r1.n r1.c, .slice r2.a r2.n r2.c, .slice r3.a r3.n r3.c] 59)).alloc (.cells #[.slice (some ⟨v6.heap.size, 0, none⟩) 4 4] 99)).ownsRow 0 99 1 (.slice a l.length c) l.length (l.map El.val)) := by
                show World.ownsRow _ _ _ _ _ _ _
                exact Row.kept (HL3.out.row) ((HKv6.out.alloc _).alloc _) (fun k e f => (D2.out k f).1 e)
              refine upTo_one (i := 27) (by kernel_rfl) rfl (fun K hK => ?_)
              refine step_append_lies _ (by rfl) _ _ _ (by rfl) 0 99 e0 _ 1 24 Try.underlying52 he0 hu0 hu1 hu2 rfl (by omega) (.slice a l.length c) l.length (l.map El.val) (by rfl) HO4.out
                ⟨v6.heap.size + 1, 0, none⟩ 1 1 [.slice (some ⟨v6.heap.size, 0, none⟩) 4 4] (by rfl) (by rfl) (news_new _ _ (by simp) [.slice (some ⟨v6.heap.size, 0, none⟩) 4 4] 99) (by simp [Value.oneCell'])
                (by omega) (by unfold maxLen; omega) (by omega) (by omega) (v6.heap.size + 2) (by simp) ?_
              intro gg cap w1 hown1 hgrow hat hlt1
              have HC : Hid (Kept (fun b => bk sa = some b ∨ bk a = some b) w3 w1) := (((HKv6.out.alloc _).alloc _).mono (fun k _ e => Or.inl e)).grown hgrow (fun k _ e => Or.inr (by rw [bk_own] at e; exact e))
              have HB1 : Hid (Blk w1 wb 56 [xv, rv, .slice a l.length c, .slice none 0 0, .slice none 0 0]) := HB3.out.kept HC.out HDw.out
              have HFin := own_close HBw.out HB0.out HL.out HSL.out D1.out D2.out D3.out D4.out D5.out HKv6.out HEE.out HAlv6.out HAr1v6.out HAr2v6.out HAr3v6.out HN1.out HN2.out HN3.out hs HT1.out HT2.out HT3.out hown1 hgrow hat
              have HFi : Hid _ := HFin
              clear HFin hown1 hgrow hat
              refine hK.out _ _ (fun _ => HS2.out _ HC.out) ?_
              clear hK K
              (try simp only [Act.put, List.setIfInBounds_toArray, List.set_cons_zero, List.set_cons_succ, List.getElem_toArray, List.getElem_cons_succ, List.getElem_cons_zero])
              refine upTo_one (i := 28) (by kernel_rfl) rfl (fun K hK => ?_)
              go_simp
              refine hK.out _ _ (fun _ => HS2.out _ HC.out) ?_
              clear hK K
              (try simp only [Act.put, List.setIfInBounds_toArray, List.set_cons_zero, List.set_cons_succ, List.getElem_toArray, List.getElem_cons_succ, List.getElem_cons_zero])
              refine upTo_one (i := 29) (by kernel_rfl) rfl (fun K hK => ?_)
              go_simp
              refine hK.out _ _ (fun _ => HS2.out _ HC.out) ?_
              clear hK K
              (try simp only [Act.put, List.setIfInBounds_toArray, List.set_cons_zero, List.set_cons_succ, List.getElem_toArray, List.getElem_cons_succ, List.getElem_cons_zero])
              have q5 := HB1.out.cell 2
              have q6 := HB1.out.frozen 2
              simp only [List.getElem?_cons_succ, List.getElem?_cons_zero] at q5
              refine upTo_one (i := 30) (by kernel_rfl) rfl (fun K hK => ?_)
              go_simp
              refine hK.out _ _ (fun h => absurd rfl h) ?_
              clear hK K
              (try simp only [Act.put, List.setIfInBounds_toArray, List.set_cons_zero, List.set_cons_succ, List.getElem_toArray, List.getElem_cons_succ, List.getElem_cons_zero])
              refine upTo_done (by kernel_rfl) ?_
              clear q5 q6
              go_wp2
              go_end0
              exact ⟨rfl, HFi.out⟩
            · skip
              go_simp
              refine hK.out _ _ (fun _ => HS.out _ (HKv3.out.alloc _)) ?_
              clear hK K
              (try simp only [Act.put, List.setIfInBounds_toArray, List.set_cons_zero, List.set_cons_succ, List.getElem_toArray, List.getElem_cons_succ, List.getElem_cons_zero])
              obtain ⟨v7, HWv7⟩ := hex (v3.alloc (.cells (evs (List.replicate 6 EE)).toArray 36))
              have hwv7 : v3.alloc (.cells #[.int .i64 EE.src, .int .i64 EE.seq, .int .i64 EE.ts, .int .i64 EE.kind, .int .i64 EE.val, .int .i64 EE.src, .int .i64 EE.seq, .int .i64 EE.ts, .int .i64 EE.kind, .int .i64 EE.val, .int .i64 EE.src, .int .i64 EE.seq, .int .i64 EE.ts, .int .i64 EE.kind, .int .i64 EE.val, .int .i64 EE.src, .int .i64 EE.seq, .int .i64 EE.ts, .int .i64 EE.kind, .int .i64 EE.val, .int .i64 EE.src, .int .i64 EE.seq, .int .i64 EE.ts, .int .i64 EE.kind, .int .i64 EE.val, .int .i64 EE.src, .int .i64 EE.seq, .int .i64 EE.ts, .int .i64 EE.kind, .int .i64 EE.val] 36) = v7 := HWv7.out.symm
              rw [hwv7]
              have HKv7 : Hid (Kept (fun b => bk sa = some b) w3 v7) := by show Kept _ _ _; rw [HWv7.out]; exact HKv3.out.alloc _
              have HPv7 : Hid (∀ r, AllM v3 EE r → AllM v7 EE r) := by intro r hr; rw [HWv7.out]; exact AllM.kept hr ((Kept.refl (fun _ => False) v3).alloc _) (fun _ _ e => e)
              have HAb30 : Hid (AllM v7 EE ⟨some ⟨v3.heap.size, 0, none⟩, 6, 6⟩) := by show AllM _ _ _; rw [HWv7.out]; exact allM_new v3 EE 6 (by unfold maxLen; omega)
              clear HWv7 hwv7
              obtain ⟨g3, HG3⟩ := hex v3.heap.size
              rw [← HG3.out] at HAb30 ⊢
              have HAb3v7 : Hid (AllM v7 EE ⟨some ⟨g3, 0, none⟩, 6, 6⟩) := HAb30
              clear HAb30 HG3
              have HAlv7 : Hid (AllM v7 EE ⟨sa, L.length, sc⟩) := HPv7.out _ HAlv3.out
              have HAb1v7 : Hid (AllM v7 EE ⟨some ⟨g1, 0, none⟩, 1, 1⟩) := HPv7.out _ HAb1v3.out
              have HAb2v7 : Hid (AllM v7 EE ⟨some ⟨g2, 0, none⟩, 2, 2⟩) := HPv7.out _ HAb2v3.out
              have HAr1v7 : Hid (AllM v7 EE r1) := HPv7.out _ HAr1v3.out
              refine upTo_one (i := 14) (by kernel_rfl) rfl (fun K hK => ?_)
              refine step_append_marks (by rfl) _ _ _ (by rfl) j0 _ Try.underlying59 hj0 hy0 hy1 hy2 rfl EE ⟨sa, L.length, sc⟩ (by rfl) HAlv7.out ⟨g2, 0, none⟩ 2 2 (by rfl) (AllM.news HAb2v7.out (by omega)) (by omega) (by simp only; omega) ?_
              intro r2 v8 hn2 hra2 hpres2 hkp2 hat2
              refine hK.out _ _ (fun _ => HS.out _ (HKv7.out.trans hkp2)) ?_
              clear hK K
              unfold Sl.val
              (try simp only [Act.put, List.setIfInBounds_toArray, List.set_cons_zero, List.set_cons_succ, List.getElem_toArray, List.getElem_cons_succ, List.getElem_cons_zero])
              have HKv8 : Hid (Kept (fun b => bk sa = some b) w3 v8) := HKv7.out.trans hkp2
              have HPv8 : Hid (∀ r, AllM v7 EE r → AllM v8 EE r) := hpres2
              have HAr2v8 : Hid (AllM v8 EE r2) := hra2
              have HN2 : Hid (r2.n = L.length + 2) := hn2
              have HT2 : Hid (∀ b, bk r2.a = some b → bk sa = some b ∨ w3.heap.size ≤ b) := by
                intro b hb
                rcases hat2 with e | ⟨b', e, h1, _⟩
                · left; rw [← e]; exact hb
                · right; rw [e] at hb; simp only [Option.some.injEq] at hb; have := HKv7.out.size; omega
              clear hra2 hpres2 hkp2 hat2 hn2
              have HAlv8 : Hid (AllM v8 EE ⟨sa, L.length, sc⟩) := HPv8.out _ HAlv7.out
              have HAb1v8 : Hid (AllM v8 EE ⟨some ⟨g1, 0, none⟩, 1, 1⟩) := HPv8.out _ HAb1v7.out
              have HAb2v8 : Hid (AllM v8 EE ⟨some ⟨g2, 0, none⟩, 2, 2⟩) := HPv8.out _ HAb2v7.out
              have HAb3v8 : Hid (AllM v8 EE ⟨some ⟨g3, 0, none⟩, 6, 6⟩) := HPv8.out _ HAb3v7.out
              have HAr1v8 : Hid (AllM v8 EE r1) := HPv8.out _ HAr1v7.out
              refine upTo_one (i := 23) (by kernel_rfl) rfl (fun K hK => ?_)
              refine step_append_marks (by rfl) _ _ _ (by rfl) j0 _ Try.underlying59 hj0 hy0 hy1 hy2 rfl EE ⟨sa, L.length, sc⟩ (by rfl) HAlv8.out ⟨g3, 0, none⟩ 6 6 (by rfl) (AllM.news HAb3v8.out (by omega)) (by omega) (by simp only; omega) ?_
              intro r3 v9 hn3 hra3 hpres3 hkp3 hat3
              refine hK.out _ _ (fun _ => HS.out _ (HKv8.out.trans hkp3)) ?_
              clear hK K
              unfold Sl.val
              (try simp only [Act.put, List.setIfInBounds_toArray, List.set_cons_zero, List.set_cons_succ, List.getElem_toArray, List.getElem_cons_succ, List.getElem_cons_zero])
              have HKv9 : Hid (Kept (fun b => bk sa = some b) w3 v9) := HKv8.out.trans hkp3
              have HPv9 : Hid (∀ r, AllM v8 EE r → AllM v9 EE r) := hpres3
              have HAr3v9 : Hid (AllM v9 EE r3) := hra3
              have HN3 : Hid (r3.n = L.length + 6) := hn3
              have HT3 : Hid (∀ b, bk r3.a = some b → bk sa = some b ∨ w3.heap.size ≤ b) := by
                intro b hb
                rcases hat3 with e | ⟨b', e, h1, _⟩
                · left; rw [← e]; exact hb
                · right; rw [e] at hb; simp only [Option.some.injEq] at hb; have := HKv8.out.size; omega
              clear hra3 hpres3 hkp3 hat3 hn3
              have HAlv9 : Hid (AllM v9 EE ⟨sa, L.length, sc⟩) := HPv9.out _ HAlv8.out
              have HAb1v9 : Hid (AllM v9 EE ⟨some ⟨g1, 0, none⟩, 1, 1⟩) := HPv9.out _ HAb1v8.out
              have HAb2v9 : Hid (AllM v9 EE ⟨some ⟨g2, 0, none⟩, 2, 2⟩) := HPv9.out _ HAb2v8.out
              have HAb3v9 : Hid (AllM v9 EE ⟨some ⟨g3, 0, none⟩, 6, 6⟩) := HPv9.out _ HAb3v8.out
              have HAr1v9 : Hid (AllM v9 EE r1) := HPv9.out _ HAr1v8.out
              have HAr2v9 : Hid (AllM v9 EE r2) := HPv9.out _ HAr2v8.out
              refine upTo_one (i := 24) (by kernel_rfl) rfl (fun K hK => ?_)
              go_simp
              refine hK.out _ _ (fun _ => HS.out _ (HKv9.out.alloc _)) ?_
              clear hK K
              (try simp only [Act.put, List.setIfInBounds_toArray, List.set_cons_zero, List.set_cons_succ, List.getElem_toArray, List.getElem_cons_succ, List.getElem_cons_zero])
              refine upTo_one (i := 25) (by kernel_rfl) rfl (fun K hK => ?_)
              go_simp
              refine hK.out _ _ (fun _ => HS.out _ (HKv9.out.alloc _)) ?_
              clear hK K
              (try simp only [Act.put, List.setIfInBounds_toArray, List.set_cons_zero, List.set_cons_succ, List.getElem_toArray, List.getElem_cons_succ, List.getElem_cons_zero])
              refine upTo_one (i := 26) (by kernel_rfl) rfl (fun K hK => ?_)
              go_simp
              refine hK.out _ _ (fun _ => HS.out _ ((HKv9.out.alloc _).alloc _)) ?_
              clear hK K
              (try simp only [Act.put, List.setIfInBounds_toArray, List.set_cons_zero, List.set_cons_succ, List.getElem_toArray, List.getElem_cons_succ, List.getElem_cons_zero])
              have HO4 : Hid (((v9.alloc (.cells #[.slice sa L.length sc, .slice r1.a r1.n r1.c, .slice r2.a r2.n r2.c, .slice r3.a r3.n r3.c] 59)).alloc (.cells #[.slice (some ⟨v9.heap.size, 0, none⟩) 4 4] 99)).ownsRow 0 99 1 (.slice a l.length c) l.length (l.map El.val)) := by
                show World.ownsRow _ _ _ _ _ _ _
                exact Row.kept (HL3.out.row) ((HKv9.out.alloc _).alloc _) (fun k e f => (D2.out k f).1 e)
              refine upTo_one (i := 27) (by kernel_rfl) rfl (fun K hK => ?_)
              refine step_append_lies _ (by rfl) _ _ _ (by rfl) 0 99 e0 _ 1 24 Try.underlying52 he0 hu0 hu1 hu2 rfl (by omega) (.slice a l.length c) l.length (l.map El.val) (by rfl) HO4.out
                ⟨v9.heap.size + 1, 0, none⟩ 1 1 [.slice (some ⟨v9.heap.size, 0, none⟩) 4 4] (by rfl) (by rfl) (news_new _ _ (by simp) [.slice (some ⟨v9.heap.size, 0, none⟩) 4 4] 99) (by simp [Value.oneCell'])
                (by omega) (by unfold maxLen; omega) (by omega) (by omega) (v9.heap.size + 2) (by simp) ?_
              intro gg cap w1 hown1 hgrow hat hlt1
              have HC : Hid (Kept (fun b => bk sa = some b ∨ bk a = some b) w3 w1) := (((HKv9.out.alloc _).alloc _).mono (fun k _ e => Or.inl e)).grown hgrow (fun k _ e => Or.inr (by rw [bk_own] at e; exact e))
              have HB1 : Hid (Blk w1 wb 56 [xv, rv, .slice a l.length c, .slice none 0 0, .slice none 0 0]) := HB3.out.kept HC.out HDw.out
              have HFin := own_close HBw.out HB0.out HL.out HSL.out D1.out D2.out D3.out D4.out D5.out HKv9.out HEE.out HAlv9.out HAr1v9.out HAr2v9.out HAr3v9.out HN1.out HN2.out HN3.out hs HT1.out HT2.out HT3.out hown1 hgrow hat
              have HFi : Hid _ := HFin
              clear HFin hown1 hgrow hat
              refine hK.out _ _ (fun _ => HS2.out _ HC.out) ?_
              clear hK K
              (try simp only [Act.put, List.setIfInBounds_toArray, List.set_cons_zero, List.set_cons_succ, List.getElem_toArray, List.getElem_cons_succ, List.getElem_cons_zero])
              refine upTo_one (i := 28) (by kernel_rfl) rfl (fun K hK => ?_)
              go_simp
              refine hK.out _ _ (fun _ => HS2.out _ HC.out) ?_
              clear hK K
              (try simp only [Act.put, List.setIfInBounds_toArray, List.set_cons_zero, List.set_cons_succ, List.getElem_toArray, List.getElem_cons_succ, List.getElem_cons_zero])
              refine upTo_one (i := 29) (by kernel_rfl) rfl (fun K hK => ?_)
              go_simp
              refine hK.out _ _ (fun _ => HS2.out _ HC.out) ?_
              clear hK K
              (try simp only [Act.put, List.setIfInBounds_toArray, List.set_cons_zero, List.set_cons_succ, List.getElem_toArray, List.getElem_cons_succ, List.getElem_cons_zero])
              have q5 := HB1.out.cell 2
              have q6 := HB1.out.frozen 2
              simp only [List.getElem?_cons_succ, List.getElem?_cons_zero] at q5
              refine upTo_one (i := 30) (by kernel_rfl) rfl (fun K hK => ?_)
              go_simp
              refine hK.out _ _ (fun h => absurd rfl h) ?_
              clear hK K
              (try simp only [Act.put, List.setIfInBounds_toArray, List.set_cons_zero, List.set_cons_succ, List.getElem_toArray, List.getElem_cons_succ, List.getElem_cons_zero])
              refine upTo_done (by kernel_rfl) ?_
              clear q5 q6
              go_wp2
              go_end0
              exact ⟨rfl, HFi.out⟩
          · skip
            go_simp
            refine hK.out _ _ (fun _ => HS.out _ (HKv2.out.alloc _)) ?_
            clear hK K
            (try simp only [Act.put, List.setIfInBounds_toArray, List.set_cons_zero, List.set_cons_succ, List.getElem_toArray, List.getElem_cons_succ, List.getElem_cons_zero])
            obtain ⟨v10, HWv10⟩ := hex (v2.alloc (.cells (evs (List.replicate 6 EE)).toArray 36))
            have hwv10 : v2.alloc (.cells #[.int .i64 EE.src, .int .i64 EE.seq, .int .i64 EE.ts, .int .i64 EE.kind, .int .i64 EE.val, .int .i64 EE.src, .int .i64 EE.seq, .int .i64 EE.ts, .int .i64 EE.kind, .int .i64 EE.val, .int .i64 EE.src, .int .i64 EE.seq, .int .i64 EE.ts, .int .i64 EE.kind, .int .i64 EE.val, .int .i64 EE.src, .int .i64 EE.seq, .int .i64 EE.ts, .int .i64 EE.kind, .int .i64 EE.val, .int .i64 EE.src, .int .i64 EE.seq, .int .i64 EE.ts, .int .i64 EE.kind, .int .i64 EE.val, .int .i64 EE.src, .int .i64 EE.seq, .int .i64 EE.ts, .int .i64 EE.kind, .int .i64 EE.val] 36) = v10 := HWv10.out.symm
            rw [hwv10]
            have HKv10 : Hid (Kept (fun b => bk sa = some b) w3 v10) := by show Kept _ _ _; rw [HWv10.out]; exact HKv2.out.alloc _
            have HPv10 : Hid (∀ r, AllM v2 EE r → AllM v10 EE r) := by intro r hr; rw [HWv10.out]; exact AllM.kept hr ((Kept.refl (fun _ => False) v2).alloc _) (fun _ _ e => e)
            have HAb30 : Hid (AllM v10 EE ⟨some ⟨v2.heap.size, 0, none⟩, 6, 6⟩) := by show AllM _ _ _; rw [HWv10.out]; exact allM_new v2 EE 6 (by unfold maxLen; omega)
            clear HWv10 hwv10
            obtain ⟨g3, HG3⟩ := hex v2.heap.size
            rw [← HG3.out] at HAb30 ⊢
            have HAb3v10 : Hid (AllM v10 EE ⟨some ⟨g3, 0, none⟩, 6, 6⟩) := HAb30
            clear HAb30 HG3
            have HAlv10 : Hid (AllM v10 EE ⟨sa, L.length, sc⟩) := HPv10.out _ HAlv2.out
            have HAb1v10 : Hid (AllM v10 EE ⟨some ⟨g1, 0, none⟩, 1, 1⟩) := HPv10.out _ HAb1v2.out
            have HAr1v10 : Hid (AllM v10 EE r1) := HPv10.out _ HAr1v2.out
            refine upTo_one (i := 13) (by kernel_rfl) rfl (fun K hK => ?_)
            go_simp
            refine hK.out _ _ (fun _ => HS.out _ (HKv10.out.alloc _)) ?_
            clear hK K
            (try simp only [Act.put, List.setIfInBounds_toArray, List.set_cons_zero, List.set_cons_succ, List.getElem_toArray, List.getElem_cons_succ, List.getElem_cons_zero])
            obtain ⟨v11, HWv11⟩ := hex (v10.alloc (.cells (evs (List.replicate 2 EE)).toArray 36))
            have hwv11 : v10.alloc (.cells #[.int .i64 EE.src, .int .i64 EE.seq, .int .i64 EE.ts, .int .i64 EE.kind, .int .i64 EE.val, .int .i64 EE.src, .int .i64 EE.seq, .int .i64 EE.ts, .int .i64 EE.kind, .int .i64 EE.val] 36) = v11 := HWv11.out.symm
            rw [hwv11]
            have HKv11 : Hid (Kept (fun b => bk sa = some b) w3 v11) := by show Kept _ _ _; rw [HWv11.out]; exact HKv10.out.alloc _
            have HPv11 : Hid (∀ r, AllM v10 EE r → AllM v11 EE r) := by intro r hr; rw [HWv11.out]; exact AllM.kept hr ((Kept.refl (fun _ => False) v10).alloc _) (fun _ _ e => e)
            have HAb20 : Hid (AllM v11 EE ⟨some ⟨v10.heap.size, 0, none⟩, 2, 2⟩) := by show AllM _ _ _; rw [HWv11.out]; exact allM_new v10 EE 2 (by unfold maxLen; omega)
            clear HWv11 hwv11
            obtain ⟨g2, HG2⟩ := hex v10.heap.size
            rw [← HG2.out] at HAb20 ⊢
            have HAb2v11 : Hid (AllM v11 EE ⟨some ⟨g2, 0, none⟩, 2, 2⟩) := HAb20
            clear HAb20 HG2
            have HAlv11 : Hid (AllM v11 EE ⟨sa, L.length, sc⟩) := HPv11.out _ HAlv10.out
            have HAb1v11 : Hid (AllM v11 EE ⟨some ⟨g1, 0, none⟩, 1, 1⟩) := HPv11.out _ HAb1v10.out
            have HAb3v11 : Hid (AllM v11 EE ⟨some ⟨g3, 0, none⟩, 6, 6⟩) := HPv11.out _ HAb3v10.out
            have HAr1v11 : Hid (AllM v11 EE r1) := HPv11.out _ HAr1v10.out
            refine upTo_one (i := 14) (by kernel_rfl) rfl (fun K hK => ?_)
            refine step_append_marks (by rfl) _ _ _ (by rfl) j0 _ Try.underlying59 hj0 hy0 hy1 hy2 rfl EE ⟨sa, L.length, sc⟩ (by rfl) HAlv11.out ⟨g2, 0, none⟩ 2 2 (by rfl) (AllM.news HAb2v11.out (by omega)) (by omega) (by simp only; omega) ?_
            intro r2 v12 hn2 hra2 hpres2 hkp2 hat2
            refine hK.out _ _ (fun _ => HS.out _ (HKv11.out.trans hkp2)) ?_
            clear hK K
            unfold Sl.val
            (try simp only [Act.put, List.setIfInBounds_toArray, List.set_cons_zero, List.set_cons_succ, List.getElem_toArray, List.getElem_cons_succ, List.getElem_cons_zero])
            have HKv12 : Hid (Kept (fun b => bk sa = some b) w3 v12) := HKv11.out.trans hkp2
            have HPv12 : Hid (∀ r, AllM v11 EE r → AllM v12 EE r) := hpres2
            have HAr2v12 : Hid (AllM v12 EE r2) := hra2
            have HN2 : Hid (r2.n = L.length + 2) := hn2
            have HT2 : Hid (∀ b, bk r2.a = some b → bk sa = some b ∨ w3.heap.size ≤ b) := by
              intro b hb
              rcases hat2 with e | ⟨b', e, h1, _⟩
              · left; rw [← e]; exact hb
              · right; rw [e] at hb; simp only [Option.some.injEq] at hb; have := HKv11.out.size; omega
            clear hra2 hpres2 hkp2 hat2 hn2
            have HAlv12 : Hid (AllM v12 EE ⟨sa, L.length, sc⟩) := HPv12.out _ HAlv11.out
            have HAb1v12 : Hid (AllM v12 EE ⟨some ⟨g1, 0, none⟩, 1, 1⟩) := HPv12.out _ HAb1v11.out
            have HAb3v12 : Hid (AllM v12 EE ⟨some ⟨g3, 0, none⟩, 6, 6⟩) := HPv12.out _ HAb3v11.out
            have HAb2v12 : Hid (AllM v12 EE ⟨some ⟨g2, 0, none⟩, 2, 2⟩) := HPv12.out _ HAb2v11.out
            have HAr1v12 : Hid (AllM v12 EE r1) := HPv12.out _ HAr1v11.out
            refine upTo_one (i := 23) (by kernel_rfl) rfl (fun K hK => ?_)
            refine step_append_marks (by rfl) _ _ _ (by rfl) j0 _ Try.underlying59 hj0 hy0 hy1 hy2 rfl EE ⟨sa, L.length, sc⟩ (by rfl) HAlv12.out ⟨g3, 0, none⟩ 6 6 (by rfl) (AllM.news HAb3v12.out (by omega)) (by omega) (by simp only; omega) ?_
            intro r3 v13 hn3 hra3 hpres3 hkp3 hat3
            refine hK.out _ _ (fun _ => HS.out _ (HKv12.out.trans hkp3)) ?_
            clear hK K
            unfold Sl.val
            (try simp only [Act.put, List.setIfInBounds_toArray, List.set_cons_zero, List.set_cons_succ, List.getElem_toArray, List.getElem_cons_succ, List.getElem_cons_zero])
            have HKv13 : Hid (Kept (fun b => bk sa = some b) w3 v13) := HKv12.out.trans hkp3
            have HPv13 : Hid (∀ r, AllM v12 EE r → AllM v13 EE r) := hpres3
            have HAr3v13 : Hid (AllM v13 EE r3) := hra3
            have HN3 : Hid (r3.n = L.length + 6) := hn3
            have HT3 : Hid (∀ b, bk r3.a = some b → bk sa = some b ∨ w3.heap.size ≤ b) := by
              intro b hb
              rcases hat3 with e | ⟨b', e, h1, _⟩
              · left; rw [← e]; exact hb
              · right; rw [e] at hb; simp only [Option.some.injEq] at hb; have := HKv12.out.size; omega
            clear hra3 hpres3 hkp3 hat3 hn3
            have HAlv13 : Hid (AllM v13 EE ⟨sa, L.length, sc⟩) := HPv13.out _ HAlv12.out
            have HAb1v13 : Hid (AllM v13 EE ⟨some ⟨g1, 0, none⟩, 1, 1⟩) := HPv13.out _ HAb1v12.out
            have HAb3v13 : Hid (AllM v13 EE ⟨some ⟨g3, 0, none⟩, 6, 6⟩) := HPv13.out _ HAb3v12.out
            have HAb2v13 : Hid (AllM v13 EE ⟨some ⟨g2, 0, none⟩, 2, 2⟩) := HPv13.out _ HAb2v12.out
            have HAr1v13 : Hid (AllM v13 EE r1) := HPv13.out _ HAr1v12.out
            have HAr2v13 : Hid (AllM v13 EE r2) := HPv13.out _ HAr2v12.out
            refine upTo_one (i := 24) (by kernel_rfl) rfl (fun K hK => ?_)
            go_simp
            refine hK.out _ _ (fun _ => HS.out _ (HKv13.out.alloc _)) ?_
            clear hK K
            (try simp only [Act.put, List.setIfInBounds_toArray, List.set_cons_zero, List.set_cons_succ, List.getElem_toArray, List.getElem_cons_succ, List.getElem_cons_zero])
            refine upTo_one (i := 25) (by kernel_rfl) rfl (fun K hK => ?_)
            go_simp
            refine hK.out _ _ (fun _ => HS.out _ (HKv13.out.alloc _)) ?_
            clear hK K
            (try simp only [Act.put, List.setIfInBounds_toArray, List.set_cons_zero, List.set_cons_succ, List.getElem_toArray, List.getElem_cons_succ, List.getElem_cons_zero])
            refine upTo_one (i := 26) (by kernel_rfl) rfl (fun K hK => ?_)
            go_simp
            refine hK.out _ _ (fun _ => HS.out _ ((HKv13.out.alloc _).alloc _)) ?_
            clear hK K
            (try simp only [Act.put, List.setIfInBounds_toArray, List.set_cons_zero, List.set_cons_succ, List.getElem_toArray, List.getElem_cons_succ, List.getElem_cons_zero])
            have HO4 : Hid (((v13.alloc (.cells #[.slice sa L.length sc, .slice r1.a r1.n r1.c, .slice r2.a r2.n r2.c, .slice r3.a r3.n r3.c] 59)).alloc (.cells #[.slice (some ⟨v13.heap.size, 0, none⟩) 4 4] 99)).ownsRow 0 99 1 (.slice a l.length c) l.length (l.map El.val)) := by
              show World.ownsRow _ _ _ _ _ _ _
              exact Row.kept (HL3.out.row) ((HKv13.out.alloc _).alloc _) (fun k e f => (D2.out k f).1 e)
            refine upTo_one (i := 27) (by kernel_rfl) rfl (fun K hK => ?_)
            refine step_append_lies _ (by rfl) _ _ _ (by rfl) 0 99 e0 _ 1 24 Try.underlying52 he0 hu0 hu1 hu2 rfl (by omega) (.slice a l.length c) l.length (l.map El.val) (by rfl) HO4.out
              ⟨v13.heap.size + 1, 0, none⟩ 1 1 [.slice (some ⟨v13.heap.size, 0, none⟩) 4 4] (by rfl) (by rfl) (news_new _ _ (by simp) [.slice (some ⟨v13.heap.size, 0, none⟩) 4 4] 99) (by simp [Value.oneCell'])
              (by omega) (by unfold maxLen; omega) (by omega) (by omega) (v13.heap.size + 2) (by simp) ?_
            intro gg cap w1 hown1 hgrow hat hlt1
            have HC : Hid (Kept (fun b => bk sa = some b ∨ bk a = some b) w3 w1) := (((HKv13.out.alloc _).alloc _).mono (fun k _ e => Or.inl e)).grown hgrow (fun k _ e => Or.inr (by rw [bk_own] at e; exact e))
            have HB1 : Hid (Blk w1 wb 56 [xv, rv, .slice a l.length c, .slice none 0 0, .slice none 0 0]) := HB3.out.kept HC.out HDw.out
            have HFin := own_close HBw.out HB0.out HL.out HSL.out D1.out D2.out D3.out D4.out D5.out HKv13.out HEE.out HAlv13.out HAr1v13.out HAr2v13.out HAr3v13.out HN1.out HN2.out HN3.out hs HT1.out HT2.out HT3.out hown1 hgrow hat
            have HFi : Hid _ := HFin
            clear HFin hown1 hgrow hat
            refine hK.out _ _ (fun _ => HS2.out _ HC.out) ?_
            clear hK K
            (try simp only [Act.put, List.setIfInBounds_toArray, List.set_cons_zero, List.set_cons_succ, List.getElem_toArray, List.getElem_cons_succ, List.getElem_cons_zero])
            refine upTo_one (i := 28) (by kernel_rfl) rfl (fun K hK => ?_)
            go_simp
            refine hK.out _ _ (fun _ => HS2.out _ HC.out) ?_
            clear hK K
            (try simp only [Act.put, List.setIfInBounds_toArray, List.set_cons_zero, List.set_cons_succ, List.getElem_toArray, List.getElem_cons_succ, List.getElem_cons_zero])
            refine upTo_one (i := 29) (by kernel_rfl) rfl (fun K hK => ?_)
            go_simp
            refine hK.out _ _ (fun _ => HS2.out _ HC.out) ?_
            clear hK K
            (try simp only [Act.put, List.setIfInBounds_toArray, List.set_cons_zero, List.set_cons_succ, List.getElem_toArray, List.getElem_cons_succ, List.getElem_cons_zero])
            have q5 := HB1.out.cell 2
            have q6 := HB1.out.frozen 2
            simp only [List.getElem?_cons_succ, List.getElem?_cons_zero] at q5
            refine upTo_one (i := 30) (by kernel_rfl) rfl (fun K hK => ?_)
            go_simp
            refine hK.out _ _ (fun h => absurd rfl h) ?_
            clear hK K
            (try simp only [Act.put, List.setIfInBounds_toArray, List.set_cons_zero, List.set_cons_succ, List.getElem_toArray, List.getElem_cons_succ, List.getElem_cons_zero])
            refine upTo_done (by kernel_rfl) ?_
            clear q5 q6
            go_wp2
            go_end0
            exact ⟨rfl, HFi.out⟩
        · skip
          go_simp
          refine hK.out _ _ (fun _ => HS.out _ (HKv1.out.alloc _)) ?_
          clear hK K
          (try simp only [Act.put, List.setIfInBounds_toArray, List.set_cons_zero, List.set_cons_succ, List.getElem_toArray, List.getElem_cons_succ, List.getElem_cons_zero])
          obtain ⟨v14, HWv14⟩ := hex (v1.alloc (.cells (evs (List.replicate 2 EE)).toArray 36))
          have hwv14 : v1.alloc (.cells #[.int .i64 EE.src, .int .i64 EE.seq, .int .i64 EE.ts, .int .i64 EE.kind, .int .i64 EE.val, .int .i64 EE.src, .int .i64 EE.seq, .int .i64 EE.ts, .int .i64 EE.kind, .int .i64 EE.val] 36) = v14 := HWv14.out.symm
          rw [hwv14]
          have HKv14 : Hid (Kept (fun b => bk sa = some b) w3 v14) := by show Kept _ _ _; rw [HWv14.out]; exact HKv1.out.alloc _
          have HPv14 : Hid (∀ r, AllM v1 EE r → AllM v14 EE r) := by intro r hr; rw [HWv14.out]; exact AllM.kept hr ((Kept.refl (fun _ => False) v1).alloc _) (fun _ _ e => e)
          have HAb20 : Hid (AllM v14 EE ⟨some ⟨v1.heap.size, 0, none⟩, 2, 2⟩) := by show AllM _ _ _; rw [HWv14.out]; exact allM_new v1 EE 2 (by unfold maxLen; omega)
          clear HWv14 hwv14
          obtain ⟨g2, HG2⟩ := hex v1.heap.size
          rw [← HG2.out] at HAb20 ⊢
          have HAb2v14 : Hid (AllM v14 EE ⟨some ⟨g2, 0, none⟩, 2, 2⟩) := HAb20
          clear HAb20 HG2
          have HAlv14 : Hid (AllM v14 EE ⟨sa, L.length, sc⟩) := HPv14.out _ HAlv1.out
          have HAb1v14 : Hid (AllM v14 EE ⟨some ⟨g1, 0, none⟩, 1, 1⟩) := HPv14.out _ HAb1v1.out
          refine upTo_two (i := 9) (j := 22) (by kernel_rfl) rfl rfl (fun K hK => ?_) (fun K hK => ?_)
          · skip
            refine step_append_marks (by rfl) _ _ _ (by rfl) j0 _ Try.underlying59 hj0 hy0 hy1 hy2 rfl EE ⟨sa, L.length, sc⟩ (by rfl) HAlv14.out ⟨g1, 0, none⟩ 1 1 (by rfl) (AllM.news HAb1v14.out (by omega)) (by omega) (by simp only; omega) ?_
            intro r1 v15 hn1 hra1 hpres1 hkp1 hat1
            refine hK.out _ _ (fun _ => HS.out _ (HKv14.out.trans hkp1)) ?_
            clear hK K
            unfold Sl.val
            (try simp only [Act.put, List.setIfInBounds_toArray, List.set_cons_zero, List.set_cons_succ, List.getElem_toArray, List.getElem_cons_succ, List.getElem_cons_zero])
            have HKv15 : Hid (Kept (fun b => bk sa = some b) w3 v15) := HKv14.out.trans hkp1
            have HPv15 : Hid (∀ r, AllM v14 EE r → AllM v15 EE r) := hpres1
            have HAr1v15 : Hid (AllM v15 EE r1) := hra1
            have HN1 : Hid (r1.n = L.length + 1) := hn1
            have HT1 : Hid (∀ b, bk r1.a = some b → bk sa = some b ∨ w3.heap.size ≤ b) := by
              intro b hb
              rcases hat1 with e | ⟨b', e, h1, _⟩
              · left; rw [← e]; exact hb
              · right; rw [e] at hb; simp only [Option.some.injEq] at hb; have := HKv14.out.size; omega
            clear hra1 hpres1 hkp1 hat1 hn1
            have HAlv15 : Hid (AllM v15 EE ⟨sa, L.length, sc⟩) := HPv15.out _ HAlv14.out
            have HAb1v15 : Hid (AllM v15 EE ⟨some ⟨g1, 0, none⟩, 1, 1⟩) := HPv15.out _ HAb1v14.out
            have HAb2v15 : Hid (AllM v15 EE ⟨some ⟨g2, 0, none⟩, 2, 2⟩) := HPv15.out _ HAb2v14.out
            refine upTo_two (i := 14) (j := 22) (by kernel_rfl) rfl rfl (fun K hK => ?_) (fun K hK => ?_)
            · skip
              refine step_append_marks (by rfl) _ _ _ (by rfl) j0 _ Try.underlying59 hj0 hy0 hy1 hy2 rfl EE ⟨sa, L.length, sc⟩ (by rfl) HAlv15.out ⟨g2, 0, none⟩ 2 2 (by rfl) (AllM.news HAb2v15.out (by omega)) (by omega) (by simp only; omega) ?_
              intro r2 v16 hn2 hra2 hpres2 hkp2 hat2
              refine hK.out _ _ (fun _ => HS.out _ (HKv15.out.trans hkp2)) ?_
              clear hK K
              unfold Sl.val
              (try simp only [Act.put, List.setIfInBounds_toArray, List.set_cons_zero, List.set_cons_succ, List.getElem_toArray, List.getElem_cons_succ, List.getElem_cons_zero])
              have HKv16 : Hid (Kept (fun b => bk sa = some b) w3 v16) := HKv15.out.trans hkp2
              have HPv16 : Hid (∀ r, AllM v15 EE r → AllM v16 EE r) := hpres2
              have HAr2v16 : Hid (AllM v16 EE r2) := hra2
              have HN2 : Hid (r2.n = L.length + 2) := hn2
              have HT2 : Hid (∀ b, bk r2.a = some b → bk sa = some b ∨ w3.heap.size ≤ b) := by
                intro b hb
                rcases hat2 with e | ⟨b', e, h1, _⟩
                · left; rw [← e]; exact hb
                · right; rw [e] at hb; simp only [Option.some.injEq] at hb; have := HKv15.out.size; omega
              clear hra2 hpres2 hkp2 hat2 hn2
              have HAlv16 : Hid (AllM v16 EE ⟨sa, L.length, sc⟩) := HPv16.out _ HAlv15.out
              have HAb1v16 : Hid (AllM v16 EE ⟨some ⟨g1, 0, none⟩, 1, 1⟩) := HPv16.out _ HAb1v15.out
              have HAb2v16 : Hid (AllM v16 EE ⟨some ⟨g2, 0, none⟩, 2, 2⟩) := HPv16.out _ HAb2v15.out
              have HAr1v16 : Hid (AllM v16 EE r1) := HPv16.out _ HAr1v15.out
              refine upTo_one (i := 22) (by kernel_rfl) rfl (fun K hK => ?_)
              go_simp
              refine hK.out _ _ (fun _ => HS.out _ (HKv16.out.alloc _)) ?_
              clear hK K
              (try simp only [Act.put, List.setIfInBounds_toArray, List.set_cons_zero, List.set_cons_succ, List.getElem_toArray, List.getElem_cons_succ, List.getElem_cons_zero])
              obtain ⟨v17, HWv17⟩ := hex (v16.alloc (.cells (evs (List.replicate 6 EE)).toArray 36))
              have hwv17 : v16.alloc (.cells #[.int .i64 EE.src, .int .i64 EE.seq, .int .i64 EE.ts, .int .i64 EE.kind, .int .i64 EE.val, .int .i64 EE.src, .int .i64 EE.seq, .int .i64 EE.ts, .int .i64 EE.kind, .int .i64 EE.val, .int .i64 EE.src, .int .i64 EE.seq, .int .i64 EE.ts, .int .i64 EE.kind, .int .i64 EE.val, .int .i64 EE.src, .int .i64 EE.seq, .int .i64 EE.ts, .int .i64 EE.kind, .int .i64 EE.val, .int .i64 EE.src, .int .i64 EE.seq, .int .i64 EE.ts, .int .i64 EE.kind, .int .i64 EE.val, .int .i64 EE.src, .int .i64 EE.seq, .int .i64 EE.ts, .int .i64 EE.kind, .int .i64 EE.val] 36) = v17 := HWv17.out.symm
              rw [hwv17]
              have HKv17 : Hid (Kept (fun b => bk sa = some b) w3 v17) := by show Kept _ _ _; rw [HWv17.out]; exact HKv16.out.alloc _
              have HPv17 : Hid (∀ r, AllM v16 EE r → AllM v17 EE r) := by intro r hr; rw [HWv17.out]; exact AllM.kept hr ((Kept.refl (fun _ => False) v16).alloc _) (fun _ _ e => e)
              have HAb30 : Hid (AllM v17 EE ⟨some ⟨v16.heap.size, 0, none⟩, 6, 6⟩) := by show AllM _ _ _; rw [HWv17.out]; exact allM_new v16 EE 6 (by unfold maxLen; omega)
              clear HWv17 hwv17
              obtain ⟨g3, HG3⟩ := hex v16.heap.size
              rw [← HG3.out] at HAb30 ⊢
              have HAb3v17 : Hid (AllM v17 EE ⟨some ⟨g3, 0, none⟩, 6, 6⟩) := HAb30
              clear HAb30 HG3
              have HAlv17 : Hid (AllM v17 EE ⟨sa, L.length, sc⟩) := HPv17.out _ HAlv16.out
              have HAb1v17 : Hid (AllM v17 EE ⟨some ⟨g1, 0, none⟩, 1, 1⟩) := HPv17.out _ HAb1v16.out
              have HAb2v17 : Hid (AllM v17 EE ⟨some ⟨g2, 0, none⟩, 2, 2⟩) := HPv17.out _ HAb2v16.out
              have HAr1v17 : Hid (AllM v17 EE r1) := HPv17.out _ HAr1v16.out
              have HAr2v17 : Hid (AllM v17 EE r2) := HPv17.out _ HAr2v16.out
              refine upTo_one (i := 23) (by kernel_rfl) rfl (fun K hK => ?_)
              refine step_append_marks (by rfl) _ _ _ (by rfl) j0 _ Try.underlying59 hj0 hy0 hy1 hy2 rfl EE ⟨sa, L.length, sc⟩ (by rfl) HAlv17.out ⟨g3, 0, none⟩ 6 6 (by rfl) (AllM.news HAb3v17.out (by omega)) (by omega) (by simp only; omega) ?_
              intro r3 v18 hn3 hra3 hpres3 hkp3 hat3
              refine hK.out _ _ (fun _ => HS.out _ (HKv17.out.trans hkp3)) ?_
              clear hK K
              unfold Sl.val
              (try simp only [Act.put, List.setIfInBounds_toArray, List.set_cons_zero, List.set_cons_succ, List.getElem_toArray, List.getElem_cons_succ, List.getElem_cons_zero])
              have HKv18 : Hid (Kept (fun b => bk sa = some b) w3 v18) := HKv17.out.trans hkp3
              have HPv18 : Hid (∀ r, AllM v17 EE r → AllM v18 EE r) := hpres3
              have HAr3v18 : Hid (AllM v18 EE r3) := hra3
              have HN3 : Hid (r3.n = L.length + 6) := hn3
              have HT3 : Hid (∀ b, bk r3.a = some b → bk sa = some b ∨ w3.heap.size ≤ b) := by
                intro b hb
                rcases hat3 with e | ⟨b', e, h1, _⟩
                · left; rw [← e]; exact hb
                · right; rw [e] at hb; simp only [Option.some.injEq] at hb; have := HKv17.out.size; omega
              clear hra3 hpres3 hkp3 hat3 hn3
              have HAlv18 : Hid (AllM v18 EE ⟨sa, L.length, sc⟩) := HPv18.out _ HAlv17.out
              have HAb1v18 : Hid (AllM v18 EE ⟨some ⟨g1, 0, none⟩, 1, 1⟩) := HPv18.out _ HAb1v17.out
              have HAb2v18 : Hid (AllM v18 EE ⟨some ⟨g2, 0, none⟩, 2, 2⟩) := HPv18.out _ HAb2v17.out
              have HAb3v18 : Hid (AllM v18 EE ⟨some ⟨g3, 0, none⟩, 6, 6⟩) := HPv18.out _ HAb3v17.out
              have HAr1v18 : Hid (AllM v18 EE r1) := HPv18.out _ HAr1v17.out
              have HAr2v18 : Hid (AllM v18 EE r2) := HPv18.out _ HAr2v17.out
              refine upTo_one (i := 24) (by kernel_rfl) rfl (fun K hK => ?_)
              go_simp
              refine hK.out _ _ (fun _ => HS.out _ (HKv18.out.alloc _)) ?_
              clear hK K
              (try simp only [Act.put, List.setIfInBounds_toArray, List.set_cons_zero, List.set_cons_succ, List.getElem_toArray, List.getElem_cons_succ, List.getElem_cons_zero])
              refine upTo_one (i := 25) (by kernel_rfl) rfl (fun K hK => ?_)
              go_simp
              refine hK.out _ _ (fun _ => HS.out _ (HKv18.out.alloc _)) ?_
              clear hK K
              (try simp only [Act.put, List.setIfInBounds_toArray, List.set_cons_zero, List.set_cons_succ, List.getElem_toArray, List.getElem_cons_succ, List.getElem_cons_zero])
              refine upTo_one (i := 26) (by kernel_rfl) rfl (fun K hK => ?_)
              go_simp
              refine hK.out _ _ (fun _ => HS.out _ ((HKv18.out.alloc _).alloc _)) ?_
              clear hK K
              (try simp only [Act.put, List.setIfInBounds_toArray, List.set_cons_zero, List.set_cons_succ, List.getElem_toArray, List.getElem_cons_succ, List.getElem_cons_zero])
              have HO4 : Hid (((v18.alloc (.cells #[.slice sa L.length sc, .slice r1.a r1.n r1.c, .slice r2.a r2.n r2.c, .slice r3.a r3.n r3.c] 59)).alloc (.cells #[.slice (some ⟨v18.heap.size, 0, none⟩) 4 4] 99)).ownsRow 0 99 1 (.slice a l.length c) l.length (l.map El.val)) := by
                show World.ownsRow _ _ _ _ _ _ _
                exact Row.kept (HL3.out.row) ((HKv18.out.alloc _).alloc _) (fun k e f => (D2.out k f).1 e)
              refine upTo_one (i := 27) (by kernel_rfl) rfl (fun K hK => ?_)
              refine step_append_lies _ (by rfl) _ _ _ (by rfl) 0 99 e0 _ 1 24 Try.underlying52 he0 hu0 hu1 hu2 rfl (by omega) (.slice a l.length c) l.length (l.map El.val) (by rfl) HO4.out
                ⟨v18.heap.size + 1, 0, none⟩ 1 1 [.slice (some ⟨v18.heap.size, 0, none⟩) 4 4] (by rfl) (by rfl) (news_new _ _ (by simp) [.slice (some ⟨v18.heap.size, 0, none⟩) 4 4] 99) (by simp [Value.oneCell'])
                (by omega) (by unfold maxLen; omega) (by omega) (by omega) (v18.heap.size + 2) (by simp) ?_
              intro gg cap w1 hown1 hgrow hat hlt1
              have HC : Hid (Kept (fun b => bk sa = some b ∨ bk a = some b) w3 w1) := (((HKv18.out.alloc _).alloc _).mono (fun k _ e => Or.inl e)).grown hgrow (fun k _ e => Or.inr (by rw [bk_own] at e; exact e))
              have HB1 : Hid (Blk w1 wb 56 [xv, rv, .slice a l.length c, .slice none 0 0, .slice none 0 0]) := HB3.out.kept HC.out HDw.out
              have HFin := own_close HBw.out HB0.out HL.out HSL.out D1.out D2.out D3.out D4.out D5.out HKv18.out HEE.out HAlv18.out HAr1v18.out HAr2v18.out HAr3v18.out HN1.out HN2.out HN3.out hs HT1.out HT2.out HT3.out hown1 hgrow hat
              have HFi : Hid _ := HFin
              clear HFin hown1 hgrow hat
              refine hK.out _ _ (fun _ => HS2.out _ HC.out) ?_
              clear hK K
              (try simp only [Act.put, List.setIfInBounds_toArray, List.set_cons_zero, List.set_cons_succ, List.getElem_toArray, List.getElem_cons_succ, List.getElem_cons_zero])
              refine upTo_one (i := 28) (by kernel_rfl) rfl (fun K hK => ?_)
              go_simp
              refine hK.out _ _ (fun _ => HS2.out _ HC.out) ?_
              clear hK K
              (try simp only [Act.put, List.setIfInBounds_toArray, List.set_cons_zero, List.set_cons_succ, List.getElem_toArray, List.getElem_cons_succ, List.getElem_cons_zero])
              refine upTo_one (i := 29) (by kernel_rfl) rfl (fun K hK => ?_)
              go_simp
              refine hK.out _ _ (fun _ => HS2.out _ HC.out) ?_
              clear hK K
              (try simp only [Act.put, List.setIfInBounds_toArray, List.set_cons_zero, List.set_cons_succ, List.getElem_toArray, List.getElem_cons_succ, List.getElem_cons_zero])
              have q5 := HB1.out.cell 2
              have q6 := HB1.out.frozen 2
              simp only [List.getElem?_cons_succ, List.getElem?_cons_zero] at q5
              refine upTo_one (i := 30) (by kernel_rfl) rfl (fun K hK => ?_)
              go_simp
              refine hK.out _ _ (fun h => absurd rfl h) ?_
              clear hK K
              (try simp only [Act.put, List.setIfInBounds_toArray, List.set_cons_zero, List.set_cons_succ, List.getElem_toArray, List.getElem_cons_succ, List.getElem_cons_zero])
              refine upTo_done (by kernel_rfl) ?_
              clear q5 q6
              go_wp2
              go_end0
              exact ⟨rfl, HFi.out⟩
            · skip
              go_simp
              refine hK.out _ _ (fun _ => HS.out _ (HKv15.out.alloc _)) ?_
              clear hK K
              (try simp only [Act.put, List.setIfInBounds_toArray, List.set_cons_zero, List.set_cons_succ, List.getElem_toArray, List.getElem_cons_succ, List.getElem_cons_zero])
              obtain ⟨v19, HWv19⟩ := hex (v15.alloc (.cells (evs (List.replicate 6 EE)).toArray 36))
              have hwv19 : v15.alloc (.cells #[.int .i64 EE.src, .int .i64 EE.seq, .int .i64 EE.ts, .int .i64 EE.kind, .int .i64 EE.val, .int .i64 EE.src, .int .i64 EE.seq, .int .i64 EE.ts, .int .i64 EE.kind, .int .i64 EE.val, .int .i64 EE.src, .int .i64 EE.seq, .int .i64 EE.ts, .int .i64 EE.kind, .int .i64 EE.val, .int .i64 EE.src, .int .i64 EE.seq, .int .i64 EE.ts, .int .i64 EE.kind, .int .i64 EE.val, .int .i64 EE.src, .int .i64 EE.seq, .int .i64 EE.ts, .int .i64 EE.kind, .int .i64 EE.val, .int .i64 EE.src, .int .i64 EE.seq, .int .i64 EE.ts, .int .i64 EE.kind, .int .i64 EE.val] 36) = v19 := HWv19.out.symm
              rw [hwv19]
              have HKv19 : Hid (Kept (fun b => bk sa = some b) w3 v19) := by show Kept _ _ _; rw [HWv19.out]; exact HKv15.out.alloc _
              have HPv19 : Hid (∀ r, AllM v15 EE r → AllM v19 EE r) := by intro r hr; rw [HWv19.out]; exact AllM.kept hr ((Kept.refl (fun _ => False) v15).alloc _) (fun _ _ e => e)
              have HAb30 : Hid (AllM v19 EE ⟨some ⟨v15.heap.size, 0, none⟩, 6, 6⟩) := by show AllM _ _ _; rw [HWv19.out]; exact allM_new v15 EE 6 (by unfold maxLen; omega)
              clear HWv19 hwv19
              obtain ⟨g3, HG3⟩ := hex v15.heap.size
              rw [← HG3.out] at HAb30 ⊢
              have HAb3v19 : Hid (AllM v19 EE ⟨some ⟨g3, 0, none⟩, 6, 6⟩) := HAb30
              clear HAb30 HG3
              have HAlv19 : Hid (AllM v19 EE ⟨sa, L.length, sc⟩) := HPv19.out _ HAlv15.out
              have HAb1v19 : Hid (AllM v19 EE ⟨some ⟨g1, 0, none⟩, 1, 1⟩) := HPv19.out _ HAb1v15.out
              have HAb2v19 : Hid (AllM v19 EE ⟨some ⟨g2, 0, none⟩, 2, 2⟩) := HPv19.out _ HAb2v15.out
              have HAr1v19 : Hid (AllM v19 EE r1) := HPv19.out _ HAr1v15.out
              refine upTo_one (i := 14) (by kernel_rfl) rfl (fun K hK => ?_)
              refine step_append_marks (by rfl) _ _ _ (by rfl) j0 _ Try.underlying59 hj0 hy0 hy1 hy2 rfl EE ⟨sa, L.length, sc⟩ (by rfl) HAlv19.out ⟨g2, 0, none⟩ 2 2 (by rfl) (AllM.news HAb2v19.out (by omega)) (by omega) (by simp only; omega) ?_
              intro r2 v20 hn2 hra2 hpres2 hkp2 hat2
              refine hK.out _ _ (fun _ => HS.out _ (HKv19.out.trans hkp2)) ?_
              clear hK K
              unfold Sl.val
              (try simp only [Act.put, List.setIfInBounds_toArray, List.set_cons_zero, List.set_cons_succ, List.getElem_toArray, List.getElem_cons_succ, List.getElem_cons_zero])
              have HKv20 : Hid (Kept (fun b => bk sa = some b) w3 v20) := HKv19.out.trans hkp2
              have HPv20 : Hid (∀ r, AllM v19 EE r → AllM v20 EE r) := hpres2
              have HAr2v20 : Hid (AllM v20 EE r2) := hra2
              have HN2 : Hid (r2.n = L.length + 2) := hn2
              have HT2 : Hid (∀ b, bk r2.a = some b → bk sa = some b ∨ w3.heap.size ≤ b) := by
                intro b hb
                rcases hat2 with e | ⟨b', e, h1, _⟩
                · left; rw [← e]; exact hb
                · right; rw [e] at hb; simp only [Option.some.injEq] at hb; have := HKv19.out.size; omega
              clear hra2 hpres2 hkp2 hat2 hn2
              have HAlv20 : Hid (AllM v20 EE ⟨sa, L.length, sc⟩) := HPv20.out _ HAlv19.out
              have HAb1v20 : Hid (AllM v20 EE ⟨some ⟨g1, 0, none⟩, 1, 1⟩) := HPv20.out _ HAb1v19.out
              have HAb2v20 : Hid (AllM v20 EE ⟨some ⟨g2, 0, none⟩, 2, 2⟩) := HPv20.out _ HAb2v19.out
              have HAb3v20 : Hid (AllM v20 EE ⟨some ⟨g3, 0, none⟩, 6, 6⟩) := HPv20.out _ HAb3v19.out
              have HAr1v20 : Hid (AllM v20 EE r1) := HPv20.out _ HAr1v19.out
              refine upTo_one (i := 23) (by kernel_rfl) rfl (fun K hK => ?_)
              refine step_append_marks (by rfl) _ _ _ (by rfl) j0 _ Try.underlying59 hj0 hy0 hy1 hy2 rfl EE ⟨sa, L.length, sc⟩ (by rfl) HAlv20.out ⟨g3, 0, none⟩ 6 6 (by rfl) (AllM.news HAb3v20.out (by omega)) (by omega) (by simp only; omega) ?_
              intro r3 v21 hn3 hra3 hpres3 hkp3 hat3
              refine hK.out _ _ (fun _ => HS.out _ (HKv20.out.trans hkp3)) ?_
              clear hK K
              unfold Sl.val
              (try simp only [Act.put, List.setIfInBounds_toArray, List.set_cons_zero, List.set_cons_succ, List.getElem_toArray, List.getElem_cons_succ, List.getElem_cons_zero])
              have HKv21 : Hid (Kept (fun b => bk sa = some b) w3 v21) := HKv20.out.trans hkp3
              have HPv21 : Hid (∀ r, AllM v20 EE r → AllM v21 EE r) := hpres3
              have HAr3v21 : Hid (AllM v21 EE r3) := hra3
              have HN3 : Hid (r3.n = L.length + 6) := hn3
              have HT3 : Hid (∀ b, bk r3.a = some b → bk sa = some b ∨ w3.heap.size ≤ b) := by
                intro b hb
                rcases hat3 with e | ⟨b', e, h1, _⟩
                · left; rw [← e]; exact hb
                · right; rw [e] at hb; simp only [Option.some.injEq] at hb; have := HKv20.out.size; omega
              clear hra3 hpres3 hkp3 hat3 hn3
              have HAlv21 : Hid (AllM v21 EE ⟨sa, L.length, sc⟩) := HPv21.out _ HAlv20.out
              have HAb1v21 : Hid (AllM v21 EE ⟨some ⟨g1, 0, none⟩, 1, 1⟩) := HPv21.out _ HAb1v20.out
              have HAb2v21 : Hid (AllM v21 EE ⟨some ⟨g2, 0, none⟩, 2, 2⟩) := HPv21.out _ HAb2v20.out
              have HAb3v21 : Hid (AllM v21 EE ⟨some ⟨g3, 0, none⟩, 6, 6⟩) := HPv21.out _ HAb3v20.out
              have HAr1v21 : Hid (AllM v21 EE r1) := HPv21.out _ HAr1v20.out
              have HAr2v21 : Hid (AllM v21 EE r2) := HPv21.out _ HAr2v20.out
              refine upTo_one (i := 24) (by kernel_rfl) rfl (fun K hK => ?_)
              go_simp
              refine hK.out _ _ (fun _ => HS.out _ (HKv21.out.alloc _)) ?_
              clear hK K
              (try simp only [Act.put, List.setIfInBounds_toArray, List.set_cons_zero, List.set_cons_succ, List.getElem_toArray, List.getElem_cons_succ, List.getElem_cons_zero])
              refine upTo_one (i := 25) (by kernel_rfl) rfl (fun K hK => ?_)
              go_simp
              refine hK.out _ _ (fun _ => HS.out _ (HKv21.out.alloc _)) ?_
              clear hK K
              (try simp only [Act.put, List.setIfInBounds_toArray, List.set_cons_zero, List.set_cons_succ, List.getElem_toArray, List.getElem_cons_succ, List.getElem_cons_zero])
              refine upTo_one (i := 26) (by kernel_rfl) rfl (fun K hK => ?_)
              go_simp
              refine hK.out _ _ (fun _ => HS.out _ ((HKv21.out.alloc _).alloc _)) ?_
              clear hK K
              (try simp only [Act.put, List.setIfInBounds_toArray, List.set_cons_zero, List.set_cons_succ, List.getElem_toArray, List.getElem_cons_succ, List.getElem_cons_zero])
              have HO4 : Hid (((v21.alloc (.cells #[.slice sa L.length sc, .slice r1.a r1.n r1.c, .slice r2.a r2.n r2.c, .slice r3.a r3.n r3.c] 59)).alloc (.cells #[.slice (some ⟨v21.heap.size, 0, none⟩) 4 4] 99)).ownsRow 0 99 1 (.slice a l.length c) l.length (l.map El.val)) := by
                show World.ownsRow _ _ _ _ _ _ _
                exact Row.kept (HL3.out.row) ((HKv21.out.alloc _).alloc _) (fun k e f => (D2.out k f).1 e)
              refine upTo_one (i := 27) (by kernel_rfl) rfl (fun K hK => ?_)
              refine step_append_lies _ (by rfl) _ _ _ (by rfl) 0 99 e0 _ 1 24 Try.underlying52 he0 hu0 hu1 hu2 rfl (by omega) (.slice a l.length c) l.length (l.map El.val) (by rfl) HO4.out
                ⟨v21.heap.size + 1, 0, none⟩ 1 1 [.slice (some ⟨v21.heap.size, 0, none⟩) 4 4] (by rfl) (by rfl) (news_new _ _ (by simp) [.slice (some ⟨v21.heap.size, 0, none⟩) 4 4] 99) (by simp [Value.oneCell'])
                (by omega) (by unfold maxLen; omega) (by omega) (by omega) (v21.heap.size + 2) (by simp) ?_
              intro gg cap w1 hown1 hgrow hat hlt1
              have HC : Hid (Kept (fun b => bk sa = some b ∨ bk a = some b) w3 w1) := (((HKv21.out.alloc _).alloc _).mono (fun k _ e => Or.inl e)).grown hgrow (fun k _ e => Or.inr (by rw [bk_own] at e; exact e))
              have HB1 : Hid (Blk w1 wb 56 [xv, rv, .slice a l.length c, .slice none 0 0, .slice none 0 0]) := HB3.out.kept HC.out HDw.out
              have HFin := own_close HBw.out HB0.out HL.out HSL.out D1.out D2.out D3.out D4.out D5.out HKv21.out HEE.out HAlv21.out HAr1v21.out HAr2v21.out HAr3v21.out HN1.out HN2.out HN3.out hs HT1.out HT2.out HT3.out hown1 hgrow hat
              have HFi : Hid _ := HFin
              clear HFin hown1 hgrow hat
              refine hK.out _ _ (fun _ => HS2.out _ HC.out) ?_
              clear hK K
              (try simp only [Act.put, List.setIfInBounds_toArray, List.set_cons_zero, List.set_cons_succ, List.getElem_toArray, List.getElem_cons_succ, List.getElem_cons_zero])
              refine upTo_one (i := 28) (by kernel_rfl) rfl (fun K hK => ?_)
              go_simp
              refine hK.out _ _ (fun _ => HS2.out _ HC.out) ?_
              clear hK K
              (try simp only [Act.put, List.setIfInBounds_toArray, List.set_cons_zero, List.set_cons_succ, List.getElem_toArray, List.getElem_cons_succ, List.getElem_cons_zero])
              refine upTo_one (i := 29) (by kernel_rfl) rfl (fun K hK => ?_)
              go_simp
              refine hK.out _ _ (fun _ => HS2.out _ HC.out) ?_
              clear hK K
              (try simp only [Act.put, List.setIfInBounds_toArray, List.set_cons_zero, List.set_cons_succ, List.getElem_toArray, List.getElem_cons_succ, List.getElem_cons_zero])
              have q5 := HB1.out.cell 2
              have q6 := HB1.out.frozen 2
              simp only [List.getElem?_cons_succ, List.getElem?_cons_zero] at q5
              refine upTo_one (i := 30) (by kernel_rfl) rfl (fun K hK => ?_)
              go_simp
              refine hK.out _ _ (fun h => absurd rfl h) ?_
              clear hK K
              (try simp only [Act.put, List.setIfInBounds_toArray, List.set_cons_zero, List.set_cons_succ, List.getElem_toArray, List.getElem_cons_succ, List.getElem_cons_zero])
              refine upTo_done (by kernel_rfl) ?_
              clear q5 q6
              go_wp2
              go_end0
              exact ⟨rfl, HFi.out⟩
          · skip
            go_simp
            refine hK.out _ _ (fun _ => HS.out _ (HKv14.out.alloc _)) ?_
            clear hK K
            (try simp only [Act.put, List.setIfInBounds_toArray, List.set_cons_zero, List.set_cons_succ, List.getElem_toArray, List.getElem_cons_succ, List.getElem_cons_zero])
            obtain ⟨v22, HWv22⟩ := hex (v14.alloc (.cells (evs (List.replicate 6 EE)).toArray 36))
            have hwv22 : v14.alloc (.cells #[.int .i64 EE.src, .int .i64 EE.seq, .int .i64 EE.ts, .int .i64 EE.kind, .int .i64 EE.val, .int .i64 EE.src, .int .i64 EE.seq, .int .i64 EE.ts, .int .i64 EE.kind, .int .i64 EE.val, .int .i64 EE.src, .int .i64 EE.seq, .int .i64 EE.ts, .int .i64 EE.kind, .int .i64 EE.val, .int .i64 EE.src, .int .i64 EE.seq, .int .i64 EE.ts, .int .i64 EE.kind, .int .i64 EE.val, .int .i64 EE.src, .int .i64 EE.seq, .int .i64 EE.ts, .int .i64 EE.kind, .int .i64 EE.val, .int .i64 EE.src, .int .i64 EE.seq, .int .i64 EE.ts, .int .i64 EE.kind, .int .i64 EE.val] 36) = v22 := HWv22.out.symm
            rw [hwv22]
            have HKv22 : Hid (Kept (fun b => bk sa = some b) w3 v22) := by show Kept _ _ _; rw [HWv22.out]; exact HKv14.out.alloc _
            have HPv22 : Hid (∀ r, AllM v14 EE r → AllM v22 EE r) := by intro r hr; rw [HWv22.out]; exact AllM.kept hr ((Kept.refl (fun _ => False) v14).alloc _) (fun _ _ e => e)
            have HAb30 : Hid (AllM v22 EE ⟨some ⟨v14.heap.size, 0, none⟩, 6, 6⟩) := by show AllM _ _ _; rw [HWv22.out]; exact allM_new v14 EE 6 (by unfold maxLen; omega)
            clear HWv22 hwv22
            obtain ⟨g3, HG3⟩ := hex v14.heap.size
            rw [← HG3.out] at HAb30 ⊢
            have HAb3v22 : Hid (AllM v22 EE ⟨some ⟨g3, 0, none⟩, 6, 6⟩) := HAb30
            clear HAb30 HG3
            have HAlv22 : Hid (AllM v22 EE ⟨sa, L.length, sc⟩) := HPv22.out _ HAlv14.out
            have HAb1v22 : Hid (AllM v22 EE ⟨some ⟨g1, 0, none⟩, 1, 1⟩) := HPv22.out _ HAb1v14.out
            have HAb2v22 : Hid (AllM v22 EE ⟨some ⟨g2, 0, none⟩, 2, 2⟩) := HPv22.out _ HAb2v14.out
            refine upTo_one (i := 9) (by kernel_rfl) rfl (fun K hK => ?_)
            refine step_append_marks (by rfl) _ _ _ (by rfl) j0 _ Try.underlying59 hj0 hy0 hy1 hy2 rfl EE ⟨sa, L.length, sc⟩ (by rfl) HAlv22.out ⟨g1, 0, none⟩ 1 1 (by rfl) (AllM.news HAb1v22.out (by omega)) (by omega) (by simp only; omega) ?_
            intro r1 v23 hn1 hra1 hpres1 hkp1 hat1
            refine hK.out _ _ (fun _ => HS.out _ (HKv22.out.trans hkp1)) ?_
            clear hK K
            unfold Sl.val
            (try simp only [Act.put, List.setIfInBounds_toArray, List.set_cons_zero, List.set_cons_succ, List.getElem_toArray, List.getElem_cons_succ, List.getElem_cons_zero])
            have HKv23 : Hid (Kept (fun b => bk sa = some b) w3 v23) := HKv22.out.trans hkp1
            have HPv23 : Hid (∀ r, AllM v22 EE r → AllM v23 EE r) := hpres1
            have HAr1v23 : Hid (AllM v23 EE r1) := hra1
            have HN1 : Hid (r1.n = L.length + 1) := hn1
            have HT1 : Hid (∀ b, bk r1.a = some b → bk sa = some b ∨ w3.heap.size ≤ b) := by
              intro b hb
              rcases hat1 with e | ⟨b', e, h1, _⟩
              · left; rw [← e]; exact hb
              · right; rw [e] at hb; simp only [Option.some.injEq] at hb; have := HKv22.out.size; omega
            clear hra1 hpres1 hkp1 hat1 hn1
            have HAlv23 : Hid (AllM v23 EE ⟨sa, L.length, sc⟩) := HPv23.out _ HAlv22.out
            have HAb1v23 : Hid (AllM v23 EE ⟨some ⟨g1, 0, none⟩, 1, 1⟩) := HPv23.out _ HAb1v22.out
            have HAb2v23 : Hid (AllM v23 EE ⟨some ⟨g2, 0, none⟩, 2, 2⟩) := HPv23.out _ HAb2v22.out
            have HAb3v23 : Hid (AllM v23 EE ⟨some ⟨g3, 0, none⟩, 6, 6⟩) := HPv23.out _ HAb3v22.out
            refine upTo_one (i := 14) (by kernel_rfl) rfl (fun K hK => ?_)
            refine step_append_marks (by rfl) _ _ _ (by rfl) j0 _ Try.underlying59 hj0 hy0 hy1 hy2 rfl EE ⟨sa, L.length, sc⟩ (by rfl) HAlv23.out ⟨g2, 0, none⟩ 2 2 (by rfl) (AllM.news HAb2v23.out (by omega)) (by omega) (by simp only; omega) ?_
            intro r2 v24 hn2 hra2 hpres2 hkp2 hat2
            refine hK.out _ _ (fun _ => HS.out _ (HKv23.out.trans hkp2)) ?_
            clear hK K
            unfold Sl.val
            (try simp only [Act.put, List.setIfInBounds_toArray, List.set_cons_zero, List.set_cons_succ, List.getElem_toArray, List.getElem_cons_succ, List.getElem_cons_zero])
            have HKv24 : Hid (Kept (fun b => bk sa = some b) w3 v24) := HKv23.out.trans hkp2
            have HPv24 : Hid (∀ r, AllM v23 EE r → AllM v24 EE r) := hpres2
            have HAr2v24 : Hid (AllM v24 EE r2) := hra2
            have HN2 : Hid (r2.n = L.length + 2) := hn2
            have HT2 : Hid (∀ b, bk r2.a = some b → bk sa = some b ∨ w3.heap.size ≤ b) := by
              intro b hb
              rcases hat2 with e | ⟨b', e, h1, _⟩
              · left; rw [← e]; exact hb
              · right; rw [e] at hb; simp only [Option.some.injEq] at hb; have := HKv23.out.size; omega
            clear hra2 hpres2 hkp2 hat2 hn2
            have HAlv24 : Hid (AllM v24 EE ⟨sa, L.length, sc⟩) := HPv24.out _ HAlv23.out
            have HAb1v24 : Hid (AllM v24 EE ⟨some ⟨g1, 0, none⟩, 1, 1⟩) := HPv24.out _ HAb1v23.out
            have HAb2v24 : Hid (AllM v24 EE ⟨some ⟨g2, 0, none⟩, 2, 2⟩) := HPv24.out _ HAb2v23.out
            have HAb3v24 : Hid (AllM v24 EE ⟨some ⟨g3, 0, none⟩, 6, 6⟩) := HPv24.out _ HAb3v23.out
            have HAr1v24 : Hid (AllM v24 EE r1) := HPv24.out _ HAr1v23.out
            refine upTo_one (i := 23) (by kernel_rfl) rfl (fun K hK => ?_)
            refine step_append_marks (by rfl) _ _ _ (by rfl) j0 _ Try.underlying59 hj0 hy0 hy1 hy2 rfl EE ⟨sa, L.length, sc⟩ (by rfl) HAlv24.out ⟨g3, 0, none⟩ 6 6 (by rfl) (AllM.news HAb3v24.out (by omega)) (by omega) (by simp only; omega) ?_
            intro r3 v25 hn3 hra3 hpres3 hkp3 hat3
            refine hK.out _ _ (fun _ => HS.out _ (HKv24.out.trans hkp3)) ?_
            clear hK K
            unfold Sl.val
            (try simp only [Act.put, List.setIfInBounds_toArray, List.set_cons_zero, List.set_cons_succ, List.getElem_toArray, List.getElem_cons_succ, List.getElem_cons_zero])
            have HKv25 : Hid (Kept (fun b => bk sa = some b) w3 v25) := HKv24.out.trans hkp3
            have HPv25 : Hid (∀ r, AllM v24 EE r → AllM v25 EE r) := hpres3
            have HAr3v25 : Hid (AllM v25 EE r3) := hra3
            have HN3 : Hid (r3.n = L.length + 6) := hn3
            have HT3 : Hid (∀ b, bk r3.a = some b → bk sa = some b ∨ w3.heap.size ≤ b) := by
              intro b hb
              rcases hat3 with e | ⟨b', e, h1, _⟩
              · left; rw [← e]; exact hb
              · right; rw [e] at hb; simp only [Option.some.injEq] at hb; have := HKv24.out.size; omega
            clear hra3 hpres3 hkp3 hat3 hn3
            have HAlv25 : Hid (AllM v25 EE ⟨sa, L.length, sc⟩) := HPv25.out _ HAlv24.out
            have HAb1v25 : Hid (AllM v25 EE ⟨some ⟨g1, 0, none⟩, 1, 1⟩) := HPv25.out _ HAb1v24.out
            have HAb2v25 : Hid (AllM v25 EE ⟨some ⟨g2, 0, none⟩, 2, 2⟩) := HPv25.out _ HAb2v24.out
            have HAb3v25 : Hid (AllM v25 EE ⟨some ⟨g3, 0, none⟩, 6, 6⟩) := HPv25.out _ HAb3v24.out
            have HAr1v25 : Hid (AllM v25 EE r1) := HPv25.out _ HAr1v24.out
            have HAr2v25 : Hid (AllM v25 EE r2) := HPv25.out _ HAr2v24.out
            refine upTo_one (i := 24) (by kernel_rfl) rfl (fun K hK => ?_)
            go_simp
            refine hK.out _ _ (fun _ => HS.out _ (HKv25.out.alloc _)) ?_
            clear hK K
            (try simp only [Act.put, List.setIfInBounds_toArray, List.set_cons_zero, List.set_cons_succ, List.getElem_toArray, List.getElem_cons_succ, List.getElem_cons_zero])
            refine upTo_one (i := 25) (by kernel_rfl) rfl (fun K hK => ?_)
            go_simp
            refine hK.out _ _ (fun _ => HS.out _ (HKv25.out.alloc _)) ?_
            clear hK K
            (try simp only [Act.put, List.setIfInBounds_toArray, List.set_cons_zero, List.set_cons_succ, List.getElem_toArray, List.getElem_cons_succ, List.getElem_cons_zero])
            refine upTo_one (i := 26) (by kernel_rfl) rfl (fun K hK => ?_)
            go_simp
            refine hK.out _ _ (fun _ => HS.out _ ((HKv25.out.alloc _).alloc _)) ?_
            clear hK K
            (try simp only [Act.put, List.setIfInBounds_toArray, List.set_cons_zero, List.set_cons_succ, List.getElem_toArray, List.getElem_cons_succ, List.getElem_cons_zero])
            have HO4 : Hid (((v25.alloc (.cells #[.slice sa L.length sc, .slice r1.a r1.n r1.c, .slice r2.a r2.n r2.c, .slice r3.a r3.n r3.c] 59)).alloc (.cells #[.slice (some ⟨v25.heap.size, 0, none⟩) 4 4] 99)).ownsRow 0 99 1 (.slice a l.length c) l.length (l.map El.val)) := by
              show World.ownsRow _ _ _ _ _ _ _
              exact Row.kept (HL3.out.row) ((HKv25.out.alloc _).alloc _) (fun k e f => (D2.out k f).1 e)
            refine upTo_one (i := 27) (by kernel_rfl) rfl (fun K hK => ?_)
            refine step_append_lies _ (by rfl) _ _ _ (by rfl) 0 99 e0 _ 1 24 Try.underlying52 he0 hu0 hu1 hu2 rfl (by omega) (.slice a l.length c) l.length (l.map El.val) (by rfl) HO4.out
              ⟨v25.heap.size + 1, 0, none⟩ 1 1 [.slice (some ⟨v25.heap.size, 0, none⟩) 4 4] (by rfl) (by rfl) (news_new _ _ (by simp) [.slice (some ⟨v25.heap.size, 0, none⟩) 4 4] 99) (by simp [Value.oneCell'])
              (by omega) (by unfold maxLen; omega) (by omega) (by omega) (v25.heap.size + 2) (by simp) ?_
            intro gg cap w1 hown1 hgrow hat hlt1
            have HC : Hid (Kept (fun b => bk sa = some b ∨ bk a = some b) w3 w1) := (((HKv25.out.alloc _).alloc _).mono (fun k _ e => Or.inl e)).grown hgrow (fun k _ e => Or.inr (by rw [bk_own] at e; exact e))
            have HB1 : Hid (Blk w1 wb 56 [xv, rv, .slice a l.length c, .slice none 0 0, .slice none 0 0]) := HB3.out.kept HC.out HDw.out
            have HFin := own_close HBw.out HB0.out HL.out HSL.out D1.out D2.out D3.out D4.out D5.out HKv25.out HEE.out HAlv25.out HAr1v25.out HAr2v25.out HAr3v25.out HN1.out HN2.out HN3.out hs HT1.out HT2.out HT3.out hown1 hgrow hat
            have HFi : Hid _ := HFin
            clear HFin hown1 hgrow hat
            refine hK.out _ _ (fun _ => HS2.out _ HC.out) ?_
            clear hK K
            (try simp only [Act.put, List.setIfInBounds_toArray, List.set_cons_zero, List.set_cons_succ, List.getElem_toArray, List.getElem_cons_succ, List.getElem_cons_zero])
            refine upTo_one (i := 28) (by kernel_rfl) rfl (fun K hK => ?_)
            go_simp
            refine hK.out _ _ (fun _ => HS2.out _ HC.out) ?_
            clear hK K
            (try simp only [Act.put, List.setIfInBounds_toArray, List.set_cons_zero, List.set_cons_succ, List.getElem_toArray, List.getElem_cons_succ, List.getElem_cons_zero])
            refine upTo_one (i := 29) (by kernel_rfl) rfl (fun K hK => ?_)
            go_simp
            refine hK.out _ _ (fun _ => HS2.out _ HC.out) ?_
            clear hK K
            (try simp only [Act.put, List.setIfInBounds_toArray, List.set_cons_zero, List.set_cons_succ, List.getElem_toArray, List.getElem_cons_succ, List.getElem_cons_zero])
            have q5 := HB1.out.cell 2
            have q6 := HB1.out.frozen 2
            simp only [List.getElem?_cons_succ, List.getElem?_cons_zero] at q5
            refine upTo_one (i := 30) (by kernel_rfl) rfl (fun K hK => ?_)
            go_simp
            refine hK.out _ _ (fun h => absurd rfl h) ?_
            clear hK K
            (try simp only [Act.put, List.setIfInBounds_toArray, List.set_cons_zero, List.set_cons_succ, List.getElem_toArray, List.getElem_cons_succ, List.getElem_cons_zero])
            refine upTo_done (by kernel_rfl) ?_
            clear q5 q6
            go_wp2
            go_end0
            exact ⟨rfl, HFi.out⟩
        · skip
          go_simp
          refine hK.out _ _ (fun _ => HS.out _ (HKv1.out.alloc _)) ?_
          clear hK K
          (try simp only [Act.put, List.setIfInBounds_toArray, List.set_cons_zero, List.set_cons_succ, List.getElem_toArray, List.getElem_cons_succ, List.getElem_cons_zero])
          obtain ⟨v26, HWv26⟩ := hex (v1.alloc (.cells (evs (List.replicate 6 EE)).toArray 36))
          have hwv26 : v1.alloc (.cells #[.int .i64 EE.src, .int .i64 EE.seq, .int .i64 EE.ts, .int .i64 EE.kind, .int .i64 EE.val, .int .i64 EE.src, .int .i64 EE.seq, .int .i64 EE.ts, .int .i64 EE.kind, .int .i64 EE.val, .int .i64 EE.src, .int .i64 EE.seq, .int .i64 EE.ts, .int .i64 EE.kind, .int .i64 EE.val, .int .i64 EE.src, .int .i64 EE.seq, .int .i64 EE.ts, .int .i64 EE.kind, .int .i64 EE.val, .int .i64 EE.src, .int .i64 EE.seq, .int .i64 EE.ts, .int .i64 EE.kind, .int .i64 EE.val, .int .i64 EE.src, .int .i64 EE.seq, .int .i64 EE.ts, .int .i64 EE.kind, .int .i64 EE.val] 36) = v26 := HWv26.out.symm
          rw [hwv26]
          have HKv26 : Hid (Kept (fun b => bk sa = some b) w3 v26) := by show Kept _ _ _; rw [HWv26.out]; exact HKv1.out.alloc _
          have HPv26 : Hid (∀ r, AllM v1 EE r → AllM v26 EE r) := by intro r hr; rw [HWv26.out]; exact AllM.kept hr ((Kept.refl (fun _ => False) v1).alloc _) (fun _ _ e => e)
          have HAb30 : Hid (AllM v26 EE ⟨some ⟨v1.heap.size, 0, none⟩, 6, 6⟩) := by show AllM _ _ _; rw [HWv26.out]; exact allM_new v1 EE 6 (by unfold maxLen; omega)
          clear HWv26 hwv26
          obtain ⟨g3, HG3⟩ := hex v1.heap.size
          rw [← HG3.out] at HAb30 ⊢
          have HAb3v26 : Hid (AllM v26 EE ⟨some ⟨g3, 0, none⟩, 6, 6⟩) := HAb30
          clear HAb30 HG3
          have HAlv26 : Hid (AllM v26 EE ⟨sa, L.length, sc⟩) := HPv26.out _ HAlv1.out
          have HAb1v26 : Hid (AllM v26 EE ⟨some ⟨g1, 0, none⟩, 1, 1⟩) := HPv26.out _ HAb1v1.out
          refine upTo_two (i := 9) (j := 13) (by kernel_rfl) rfl rfl (fun K hK => ?_) (fun K hK => ?_)
          · skip
            refine step_append_marks (by rfl) _ _ _ (by rfl) j0 _ Try.underlying59 hj0 hy0 hy1 hy2 rfl EE ⟨sa, L.length, sc⟩ (by rfl) HAlv26.out ⟨g1, 0, none⟩ 1 1 (by rfl) (AllM.news HAb1v26.out (by omega)) (by omega) (by simp only; omega) ?_
            intro r1 v27 hn1 hra1 hpres1 hkp1 hat1
            refine hK.out _ _ (fun _ => HS.out _ (HKv26.out.trans hkp1)) ?_
            clear hK K
            unfold Sl.val
            (try simp only [Act.put, List.setIfInBounds_toArray, List.set_cons_zero, List.set_cons_succ, List.getElem_toArray, List.getElem_cons_succ, List.getElem_cons_zero])
            have HKv27 : Hid (Kept (fun b => bk sa = some b) w3 v27) := HKv26.out.trans hkp1
            have HPv27 : Hid (∀ r, AllM v26 EE r → AllM v27 EE r) := hpres1
            have HAr1v27 : Hid (AllM v27 EE r1) := hra1
            have HN1 : Hid (r1.n = L.length + 1) := hn1
            have HT1 : Hid (∀ b, bk r1.a = some b → bk sa = some b ∨ w3.heap.size ≤ b) := by
              intro b hb
              rcases hat1 with e | ⟨b', e, h1, _⟩
              · left; rw [← e]; exact hb
              · right; rw [e] at hb; simp only [Option.some.injEq] at hb; have := HKv26.out.size; omega
            clear hra1 hpres1 hkp1 hat1 hn1
            have HAlv27 : Hid (AllM v27 EE ⟨sa, L.length, sc⟩) := HPv27.out _ HAlv26.out
            have HAb1v27 : Hid (AllM v27 EE ⟨some ⟨g1, 0, none⟩, 1, 1⟩) := HPv27.out _ HAb1v26.out
            have HAb3v27 : Hid (AllM v27 EE ⟨some ⟨g3, 0, none⟩, 6, 6⟩) := HPv27.out _ HAb3v26.out
            refine upTo_one (i := 13) (by kernel_rfl) rfl (fun K hK => ?_)
            go_simp
            refine hK.out _ _ (fun _ => HS.out _ (HKv27.out.alloc _)) ?_
            clear hK K
            (try simp only [Act.put, List.setIfInBounds_toArray, List.set_cons_zero, List.set_cons_succ, List.getElem_toArray, List.getElem_cons_succ, List.getElem_cons_zero])
            obtain ⟨v28, HWv28⟩ := hex (v27.alloc (.cells (evs (List.replicate 2 EE)).toArray 36))
            have hwv28 : v27.alloc (.cells #[.int .i64 EE.src, .int .i64 EE.seq, .int .i64 EE.ts, .int .i64 EE.kind, .int .i64 EE.val, .int .i64 EE.src, .int .i64 EE.seq, .int .i64 EE.ts, .int .i64 EE.kind, .int .i64 EE.val] 36) = v28 := HWv28.out.symm
            rw [hwv28]
            have HKv28 : Hid (Kept (fun b => bk sa = some b) w3 v28) := by show Kept _ _ _; rw [HWv28.out]; exact HKv27.out.alloc _
            have HPv28 : Hid (∀ r, AllM v27 EE r → AllM v28 EE r) := by intro r hr; rw [HWv28.out]; exact AllM.kept hr ((Kept.refl (fun _ => False) v27).alloc _) (fun _ _ e => e)
            have HAb20 : Hid (AllM v28 EE ⟨some ⟨v27.heap.size, 0, none⟩, 2, 2⟩) := by show AllM _ _ _; rw [HWv28.out]; exact allM_new v27 EE 2 (by unfold maxLen; omega)
            clear HWv28 hwv28
            obtain ⟨g2, HG2⟩ := hex v27.heap.size
            rw [← HG2.out] at HAb20 ⊢
            have HAb2v28 : Hid (AllM v28 EE ⟨some ⟨g2, 0, none⟩, 2, 2⟩) := HAb20
            clear HAb20 HG2
            have HAlv28 : Hid (AllM v28 EE ⟨sa, L.length, sc⟩) := HPv28.out _ HAlv27.out
            have HAb1v28 : Hid (AllM v28 EE ⟨some ⟨g1, 0, none⟩, 1, 1⟩) := HPv28.out _ HAb1v27.out
            have HAb3v28 : Hid (AllM v28 EE ⟨some ⟨g3, 0, none⟩, 6, 6⟩) := HPv28.out _ HAb3v27.out
            have HAr1v28 : Hid (AllM v28 EE r1) := HPv28.out _ HAr1v27.out
            refine upTo_one (i := 14) (by kernel_rfl) rfl (fun K hK => ?_)
            refine step_append_marks (by rfl) _ _ _ (by rfl) j0 _ Try.underlying59 hj0 hy0 hy1 hy2 rfl EE ⟨sa, L.length, sc⟩ (by rfl) HAlv28.out ⟨g2, 0, none⟩ 2 2 (by rfl) (AllM.news HAb2v28.out (by omega)) (by omega) (by simp only; omega) ?_
            intro r2 v29 hn2 hra2 hpres2 hkp2 hat2
            refine hK.out _ _ (fun _ => HS.out _ (HKv28.out.trans hkp2)) ?_
            clear hK K
            unfold Sl.val
            (try simp only [Act.put, List.setIfInBounds_toArray, List.set_cons_zero, List.set_cons_succ, List.getElem_toArray, List.getElem_cons_succ, List.getElem_cons_zero])
            have HKv29 : Hid (Kept (fun b => bk sa = some b) w3 v29) := HKv28.out.trans hkp2
            have HPv29 : Hid (∀ r, AllM v28 EE r → AllM v29 EE r) := hpres2
            have HAr2v29 : Hid (AllM v29 EE r2) := hra2
            have HN2 : Hid (r2.n = L.length + 2) := hn2
            have HT2 : Hid (∀ b, bk r2.a = some b → bk sa = some b ∨ w3.heap.size ≤ b) := by
              intro b hb
              rcases hat2 with e | ⟨b', e, h1, _⟩
              · left; rw [← e]; exact hb
              · right; rw [e] at hb; simp only [Option.some.injEq] at hb; have := HKv28.out.size; omega
            clear hra2 hpres2 hkp2 hat2 hn2
            have HAlv29 : Hid (AllM v29 EE ⟨sa, L.length, sc⟩) := HPv29.out _ HAlv28.out
            have HAb1v29 : Hid (AllM v29 EE ⟨some ⟨g1, 0, none⟩, 1, 1⟩) := HPv29.out _ HAb1v28.out
            have HAb3v29 : Hid (AllM v29 EE ⟨some ⟨g3, 0, none⟩, 6, 6⟩) := HPv29.out _ HAb3v28.out
            have HAb2v29 : Hid (AllM v29 EE ⟨some ⟨g2, 0, none⟩, 2, 2⟩) := HPv29.out _ HAb2v28.out
            have HAr1v29 : Hid (AllM v29 EE r1) := HPv29.out _ HAr1v28.out
            refine upTo_one (i := 23) (by kernel_rfl) rfl (fun K hK => ?_)
            refine step_append_marks (by rfl) _ _ _ (by rfl) j0 _ Try.underlying59 hj0 hy0 hy1 hy2 rfl EE ⟨sa, L.length, sc⟩ (by rfl) HAlv29.out ⟨g3, 0, none⟩ 6 6 (by rfl) (AllM.news HAb3v29.out (by omega)) (by omega) (by simp only; omega) ?_
            intro r3 v30 hn3 hra3 hpres3 hkp3 hat3
            refine hK.out _ _ (fun _ => HS.out _ (HKv29.out.trans hkp3)) ?_
            clear hK K
            unfold Sl.val
            (try simp only [Act.put, List.setIfInBounds_toArray, List.set_cons_zero, List.set_cons_succ, List.getElem_toArray, List.getElem_cons_succ, List.getElem_cons_zero])
            have HKv30 : Hid (Kept (fun b => bk sa = some b) w3 v30) := HKv29.out.trans hkp3
            have HPv30 : Hid (∀ r, AllM v29 EE r → AllM v30 EE r) := hpres3
            have HAr3v30 : Hid (AllM v30 EE r3) := hra3
            have HN3 : Hid (r3.n = L.length + 6) := hn3
            have HT3 : Hid (∀ b, bk r3.a = some b → bk sa = some b ∨ w3.heap.size ≤ b) := by
              intro b hb
              rcases hat3 with e | ⟨b', e, h1, _⟩
              · left; rw [← e]; exact hb
              · right; rw [e] at hb; simp only [Option.some.injEq] at hb; have := HKv29.out.size; omega
            clear hra3 hpres3 hkp3 hat3 hn3
            have HAlv30 : Hid (AllM v30 EE ⟨sa, L.length, sc⟩) := HPv30.out _ HAlv29.out
            have HAb1v30 : Hid (AllM v30 EE ⟨some ⟨g1, 0, none⟩, 1, 1⟩) := HPv30.out _ HAb1v29.out
            have HAb3v30 : Hid (AllM v30 EE ⟨some ⟨g3, 0, none⟩, 6, 6⟩) := HPv30.out _ HAb3v29.out
            have HAb2v30 : Hid (AllM v30 EE ⟨some ⟨g2, 0, none⟩, 2, 2⟩) := HPv30.out _ HAb2v29.out
            have HAr1v30 : Hid (AllM v30 EE r1) := HPv30.out _ HAr1v29.out
            have HAr2v30 : Hid (AllM v30 EE r2) := HPv30.out _ HAr2v29.out
            refine upTo_one (i := 24) (by kernel_rfl) rfl (fun K hK => ?_)
            go_simp
            refine hK.out _ _ (fun _ => HS.out _ (HKv30.out.alloc _)) ?_
            clear hK K
            (try simp only [Act.put, List.setIfInBounds_toArray, List.set_cons_zero, List.set_cons_succ, List.getElem_toArray, List.getElem_cons_succ, List.getElem_cons_zero])
            refine upTo_one (i := 25) (by kernel_rfl) rfl (fun K hK => ?_)
            go_simp
            refine hK.out _ _ (fun _ => HS.out _ (HKv30.out.alloc _)) ?_
            clear hK K
            (try simp only [Act.put, List.setIfInBounds_toArray, List.set_cons_zero, List.set_cons_succ, List.getElem_toArray, List.getElem_cons_succ, List.getElem_cons_zero])
            refine upTo_one (i := 26) (by kernel_rfl) rfl (fun K hK => ?_)
            go_simp
            refine hK.out _ _ (fun _ => HS.out _ ((HKv30.out.alloc _).alloc _)) ?_
            clear hK K
            (try simp only [Act.put, List.setIfInBounds_toArray, List.set_cons_zero, List.set_cons_succ, List.getElem_toArray, List.getElem_cons_succ, List.getElem_cons_zero])
            have HO4 : Hid (((v30.alloc (.cells #[.slice sa L.length sc, .slice r1.a r1.n r1.c, .slice r2.a r2.n r2.c, .slice r3.a r3.n r3.c] 59)).alloc (.cells #[.slice (some ⟨v30.heap.size, 0, none⟩) 4 4] 99)).ownsRow 0 99 1 (.slice a l.length c) l.length (l.map El.val)) := by
              show World.ownsRow _ _ _ _ _ _ _
              exact Row.kept (HL3.out.row) ((HKv30.out.alloc _).alloc _) (fun k e f => (D2.out k f).1 e)
            refine upTo_one (i := 27) (by kernel_rfl) rfl (fun K hK => ?_)
            refine step_append_lies _ (by rfl) _ _ _ (by rfl) 0 99 e0 _ 1 24 Try.underlying52 he0 hu0 hu1 hu2 rfl (by omega) (.slice a l.length c) l.length (l.map El.val) (by rfl) HO4.out
              ⟨v30.heap.size + 1, 0, none⟩ 1 1 [.slice (some ⟨v30.heap.size, 0, none⟩) 4 4] (by rfl) (by rfl) (news_new _ _ (by simp) [.slice (some ⟨v30.heap.size, 0, none⟩) 4 4] 99) (by simp [Value.oneCell'])
              (by omega) (by unfold maxLen; omega) (by omega) (by omega) (v30.heap.size + 2) (by simp) ?_
            intro gg cap w1 hown1 hgrow hat hlt1
            have HC : Hid (Kept (fun b => bk sa = some b ∨ bk a = some b) w3 w1) := (((HKv30.out.alloc _).alloc _).mono (fun k _ e => Or.inl e)).grown hgrow (fun k _ e => Or.inr (by rw [bk_own] at e; exact e))
            have HB1 : Hid (Blk w1 wb 56 [xv, rv, .slice a l.length c, .slice none 0 0, .slice none 0 0]) := HB3.out.kept HC.out HDw.out
            have HFin := own_close HBw.out HB0.out HL.out HSL.out D1.out D2.out D3.out D4.out D5.out HKv30.out HEE.out HAlv30.out HAr1v30.out HAr2v30.out HAr3v30.out HN1.out HN2.out HN3.out hs HT1.out HT2.out HT3.out hown1 hgrow hat
            have HFi : Hid _ := HFin
            clear HFin hown1 hgrow hat
            refine hK.out _ _ (fun _ => HS2.out _ HC.out) ?_
            clear hK K
            (try simp only [Act.put, List.setIfInBounds_toArray, List.set_cons_zero, List.set_cons_succ, List.getElem_toArray, List.getElem_cons_succ, List.getElem_cons_zero])
            refine upTo_one (i := 28) (by kernel_rfl) rfl (fun K hK => ?_)
            go_simp
            refine hK.out _ _ (fun _ => HS2.out _ HC.out) ?_
            clear hK K
            (try simp only [Act.put, List.setIfInBounds_toArray, List.set_cons_zero, List.set_cons_succ, List.getElem_toArray, List.getElem_cons_succ, List.getElem_cons_zero])
            refine upTo_one (i := 29) (by kernel_rfl) rfl (fun K hK => ?_)
            go_simp
            refine hK.out _ _ (fun _ => HS2.out _ HC.out) ?_
            clear hK K
            (try simp only [Act.put, List.setIfInBounds_toArray, List.set_cons_zero, List.set_cons_succ, List.getElem_toArray, List.getElem_cons_succ, List.getElem_cons_zero])
            have q5 := HB1.out.cell 2
            have q6 := HB1.out.frozen 2
            simp only [List.getElem?_cons_succ, List.getElem?_cons_zero] at q5
            refine upTo_one (i := 30) (by kernel_rfl) rfl (fun K hK => ?_)
            go_simp
            refine hK.out _ _ (fun h => absurd rfl h) ?_
            clear hK K
            (try simp only [Act.put, List.setIfInBounds_toArray, List.set_cons_zero, List.set_cons_succ, List.getElem_toArray, List.getElem_cons_succ, List.getElem_cons_zero])
            refine upTo_done (by kernel_rfl) ?_
            clear q5 q6
            go_wp2
            go_end0
            exact ⟨rfl, HFi.out⟩
          · skip
            go_simp
            refine hK.out _ _ (fun _ => HS.out _ (HKv26.out.alloc _)) ?_
            clear hK K
            (try simp only [Act.put, List.setIfInBounds_toArray, List.set_cons_zero, List.set_cons_succ, List.getElem_toArray, List.getElem_cons_succ, List.getElem_cons_zero])
            obtain ⟨v31, HWv31⟩ := hex (v26.alloc (.cells (evs (List.replicate 2 EE)).toArray 36))
            have hwv31 : v26.alloc (.cells #[.int .i64 EE.src, .int .i64 EE.seq, .int .i64 EE.ts, .int .i64 EE.kind, .int .i64 EE.val, .int .i64 EE.src, .int .i64 EE.seq, .int .i64 EE.ts, .int .i64 EE.kind, .int .i64 EE.val] 36) = v31 := HWv31.out.symm
            rw [hwv31]
            have HKv31 : Hid (Kept (fun b => bk sa = some b) w3 v31) := by show Kept _ _ _; rw [HWv31.out]; exact HKv26.out.alloc _
            have HPv31 : Hid (∀ r, AllM v26 EE r → AllM v31 EE r) := by intro r hr; rw [HWv31.out]; exact AllM.kept hr ((Kept.refl (fun _ => False) v26).alloc _) (fun _ _ e => e)
            have HAb20 : Hid (AllM v31 EE ⟨some ⟨v26.heap.size, 0, none⟩, 2, 2⟩) := by show AllM _ _ _; rw [HWv31.out]; exact allM_new v26 EE 2 (by unfold maxLen; omega)
            clear HWv31 hwv31
            obtain ⟨g2, HG2⟩ := hex v26.heap.size
            rw [← HG2.out] at HAb20 ⊢
            have HAb2v31 : Hid (AllM v31 EE ⟨some ⟨g2, 0, none⟩, 2, 2⟩) := HAb20
            clear HAb20 HG2
            have HAlv31 : Hid (AllM v31 EE ⟨sa, L.length, sc⟩) := HPv31.out _ HAlv26.out
            have HAb1v31 : Hid (AllM v31 EE ⟨some ⟨g1, 0, none⟩, 1, 1⟩) := HPv31.out _ HAb1v26.out
            have HAb3v31 : Hid (AllM v31 EE ⟨some ⟨g3, 0, none⟩, 6, 6⟩) := HPv31.out _ HAb3v26.out
            refine upTo_one (i := 9) (by kernel_rfl) rfl (fun K hK => ?_)
            refine step_append_marks (by rfl) _ _ _ (by rfl) j0 _ Try.underlying59 hj0 hy0 hy1 hy2 rfl EE ⟨sa, L.length, sc⟩ (by rfl) HAlv31.out ⟨g1, 0, none⟩ 1 1 (by rfl) (AllM.news HAb1v31.out (by omega)) (by omega) (by simp only; omega) ?_
            intro r1 v32 hn1 hra1 hpres1 hkp1 hat1
            refine hK.out _ _ (fun _ => HS.out _ (HKv31.out.trans hkp1)) ?_
            clear hK K
            unfold Sl.val
            (try simp only [Act.put, List.setIfInBounds_toArray, List.set_cons_zero, List.set_cons_succ, List.getElem_toArray, List.getElem_cons_succ, List.getElem_cons_zero])
            have HKv32 : Hid (Kept (fun b => bk sa = some b) w3 v32) := HKv31.out.trans hkp1
            have HPv32 : Hid (∀ r, AllM v31 EE r → AllM v32 EE r) := hpres1
            have HAr1v32 : Hid (AllM v32 EE r1) := hra1
            have HN1 : Hid (r1.n = L.length + 1) := hn1
            have HT1 : Hid (∀ b, bk r1.a = some b → bk sa = some b ∨ w3.heap.size ≤ b) := by
              intro b hb
              rcases hat1 with e | ⟨b', e, h1, _⟩
              · left; rw [← e]; exact hb
              · right; rw [e] at hb; simp only [Option.some.injEq] at hb; have := HKv31.out.size; omega
            clear hra1 hpres1 hkp1 hat1 hn1
            have HAlv32 : Hid (AllM v32 EE ⟨sa, L.length, sc⟩) := HPv32.out _ HAlv31.out
            have HAb1v32 : Hid (AllM v32 EE ⟨some ⟨g1, 0, none⟩, 1, 1⟩) := HPv32.out _ HAb1v31.out
            have HAb3v32 : Hid (AllM v32 EE ⟨some ⟨g3, 0, none⟩, 6, 6⟩) := HPv32.out _ HAb3v31.out
            have HAb2v32 : Hid (AllM v32 EE ⟨some ⟨g2, 0, none⟩, 2, 2⟩) := HPv32.out _ HAb2v31.out
            refine upTo_one (i := 14) (by kernel_rfl) rfl (fun K hK => ?_)
            refine step_append_marks (by rfl) _ _ _ (by rfl) j0 _ Try.underlying59 hj0 hy0 hy1 hy2 rfl EE ⟨sa, L.length, sc⟩ (by rfl) HAlv32.out ⟨g2, 0, none⟩ 2 2 (by rfl) (AllM.news HAb2v32.out (by omega)) (by omega) (by simp only; omega) ?_
            intro r2 v33 hn2 hra2 hpres2 hkp2 hat2
            refine hK.out _ _ (fun _ => HS.out _ (HKv32.out.trans hkp2)) ?_
            clear hK K
            unfold Sl.val
            (try simp only [Act.put, List.setIfInBounds_toArray, List.set_cons_zero, List.set_cons_succ, List.getElem_toArray, List.getElem_cons_succ, List.getElem_cons_zero])
            have HKv33 : Hid (Kept (fun b => bk sa = some b) w3 v33) := HKv32.out.trans hkp2
            have HPv33 : Hid (∀ r, AllM v32 EE r → AllM v33 EE r) := hpres2
            have HAr2v33 : Hid (AllM v33 EE r2) := hra2
            have HN2 : Hid (r2.n = L.length + 2) := hn2
            have HT2 : Hid (∀ b, bk r2.a = some b → bk sa = some b ∨ w3.heap.size ≤ b) := by
              intro b hb
              rcases hat2 with e | ⟨b', e, h1, _⟩
              · left; rw [← e]; exact hb
              · right; rw [e] at hb; simp only [Option.some.injEq] at hb; have := HKv32.out.size; omega
            clear hra2 hpres2 hkp2 hat2 hn2
            have HAlv33 : Hid (AllM v33 EE ⟨sa, L.length, sc⟩) := HPv33.out _ HAlv32.out
            have HAb1v33 : Hid (AllM v33 EE ⟨some ⟨g1, 0, none⟩, 1, 1⟩) := HPv33.out _ HAb1v32.out
            have HAb3v33 : Hid (AllM v33 EE ⟨some ⟨g3, 0, none⟩, 6, 6⟩) := HPv33.out _ HAb3v32.out
            have HAb2v33 : Hid (AllM v33 EE ⟨some ⟨g2, 0, none⟩, 2, 2⟩) := HPv33.out _ HAb2v32.out
            have HAr1v33 : Hid (AllM v33 EE r1) := HPv33.out _ HAr1v32.out
            refine upTo_one (i := 23) (by kernel_rfl) rfl (fun K hK => ?_)
            refine step_append_marks (by rfl) _ _ _ (by rfl) j0 _ Try.underlying59 hj0 hy0 hy1 hy2 rfl EE ⟨sa, L.length, sc⟩ (by rfl) HAlv33.out ⟨g3, 0, none⟩ 6 6 (by rfl) (AllM.news HAb3v33.out (by omega)) (by omega) (by simp only; omega) ?_
            intro r3 v34 hn3 hra3 hpres3 hkp3 hat3
            refine hK.out _ _ (fun _ => HS.out _ (HKv33.out.trans hkp3)) ?_
            clear hK K
            unfold Sl.val
            (try simp only [Act.put, List.setIfInBounds_toArray, List.set_cons_zero, List.set_cons_succ, List.getElem_toArray, List.getElem_cons_succ, List.getElem_cons_zero])
            have HKv34 : Hid (Kept (fun b => bk sa = some b) w3 v34) := HKv33.out.trans hkp3
            have HPv34 : Hid (∀ r, AllM v33 EE r → AllM v34 EE r) := hpres3
            have HAr3v34 : Hid (AllM v34 EE r3) := hra3
            have HN3 : Hid (r3.n = L.length + 6) := hn3
            have HT3 : Hid (∀ b, bk r3.a = some b → bk sa = some b ∨ w3.heap.size ≤ b) := by
              intro b hb
              rcases hat3 with e | ⟨b', e, h1, _⟩
              · left; rw [← e]; exact hb
              · right; rw [e] at hb; simp only [Option.some.injEq] at hb; have := HKv33.out.size; omega
            clear hra3 hpres3 hkp3 hat3 hn3
            have HAlv34 : Hid (AllM v34 EE ⟨sa, L.length, sc⟩) := HPv34.out _ HAlv33.out
            have HAb1v34 : Hid (AllM v34 EE ⟨some ⟨g1, 0, none⟩, 1, 1⟩) := HPv34.out _ HAb1v33.out
            have HAb3v34 : Hid (AllM v34 EE ⟨some ⟨g3, 0, none⟩, 6, 6⟩) := HPv34.out _ HAb3v33.out
            have HAb2v34 : Hid (AllM v34 EE ⟨some ⟨g2, 0, none⟩, 2, 2⟩) := HPv34.out _ HAb2v33.out
            have HAr1v34 : Hid (AllM v34 EE r1) := HPv34.out _ HAr1v33.out
            have HAr2v34 : Hid (AllM v34 EE r2) := HPv34.out _ HAr2v33.out
            refine upTo_one (i := 24) (by kernel_rfl) rfl (fun K hK => ?_)
            go_simp
            refine hK.out _ _ (fun _ => HS.out _ (HKv34.out.alloc _)) ?_
            clear hK K
            (try simp only [Act.put, List.setIfInBounds_toArray, List.set_cons_zero, List.set_cons_succ, List.getElem_toArray, List.getElem_cons_succ, List.getElem_cons_zero])
            refine upTo_one (i := 25) (by kernel_rfl) rfl (fun K hK => ?_)
            go_simp
            refine hK.out _ _ (fun _ => HS.out _ (HKv34.out.alloc _)) ?_
            clear hK K
            (try simp only [Act.put, List.setIfInBounds_toArray, List.set_cons_zero, List.set_cons_succ, List.getElem_toArray, List.getElem_cons_succ, List.getElem_cons_zero])
            refine upTo_one (i := 26) (by kernel_rfl) rfl (fun K hK => ?_)
            go_simp
            refine hK.out _ _ (fun _ => HS.out _ ((HKv34.out.alloc _).alloc _)) ?_
            clear hK K
            (try simp only [Act.put, List.setIfInBounds_toArray, List.set_cons_zero, List.set_cons_succ, List.getElem_toArray, List.getElem_cons_succ, List.getElem_cons_zero])
            have HO4 : Hid (((v34.alloc (.cells #[.slice sa L.length sc, .slice r1.a r1.n r1.c, .slice r2.a r2.n r2.c, .slice r3.a r3.n r3.c] 59)).alloc (.cells #[.slice (some ⟨v34.heap.size, 0, none⟩) 4 4] 99)).ownsRow 0 99 1 (.slice a l.length c) l.length (l.map El.val)) := by
              show World.ownsRow _ _ _ _ _ _ _
              exact Row.kept (HL3.out.row) ((HKv34.out.alloc _).alloc _) (fun k e f => (D2.out k f).1 e)
            refine upTo_one (i := 27) (by kernel_rfl) rfl (fun K hK => ?_)
            refine step_append_lies _ (by rfl) _ _ _ (by rfl) 0 99 e0 _ 1 24 Try.underlying52 he0 hu0 hu1 hu2 rfl (by omega) (.slice a l.length c) l.length (l.map El.val) (by rfl) HO4.out
              ⟨v34.heap.size + 1, 0, none⟩ 1 1 [.slice (some ⟨v34.heap.size, 0, none⟩) 4 4] (by rfl) (by rfl) (news_new _ _ (by simp) [.slice (some ⟨v34.heap.size, 0, none⟩) 4 4] 99) (by simp [Value.oneCell'])
              (by omega) (by unfold maxLen; omega) (by omega) (by omega) (v34.heap.size + 2) (by simp) ?_
            intro gg cap w1 hown1 hgrow hat hlt1
            have HC : Hid (Kept (fun b => bk sa = some b ∨ bk a = some b) w3 w1) := (((HKv34.out.alloc _).alloc _).mono (fun k _ e => Or.inl e)).grown hgrow (fun k _ e => Or.inr (by rw [bk_own] at e; exact e))
            have HB1 : Hid (Blk w1 wb 56 [xv, rv, .slice a l.length c, .slice none 0 0, .slice none 0 0]) := HB3.out.kept HC.out HDw.out
            have HFin := own_close HBw.out HB0.out HL.out HSL.out D1.out D2.out D3.out D4.out D5.out HKv34.out HEE.out HAlv34.out HAr1v34.out HAr2v34.out HAr3v34.out HN1.out HN2.out HN3.out hs HT1.out HT2.out HT3.out hown1 hgrow hat
            have HFi : Hid _ := HFin
            clear HFin hown1 hgrow hat
            refine hK.out _ _ (fun _ => HS2.out _ HC.out) ?_
            clear hK K
            (try simp only [Act.put, List.setIfInBounds_toArray, List.set_cons_zero, List.set_cons_succ, List.getElem_toArray, List.getElem_cons_succ, List.getElem_cons_zero])
            refine upTo_one (i := 28) (by kernel_rfl) rfl (fun K hK => ?_)
            go_simp
            refine hK.out _ _ (fun _ => HS2.out _ HC.out) ?_
            clear hK K
            (try simp only [Act.put, List.setIfInBounds_toArray, List.set_cons_zero, List.set_cons_succ, List.getElem_toArray, List.getElem_cons_succ, List.getElem_cons_zero])
            refine upTo_one (i := 29) (by kernel_rfl) rfl (fun K hK => ?_)
            go_simp
            refine hK.out _ _ (fun _ => HS2.out _ HC.out) ?_
            clear hK K
            (try simp only [Act.put, List.setIfInBounds_toArray, List.set_cons_zero, List.set_cons_succ, List.getElem_toArray, List.getElem_cons_succ, List.getElem_cons_zero])
            have q5 := HB1.out.cell 2
            have q6 := HB1.out.frozen 2
            simp only [List.getElem?_cons_succ, List.getElem?_cons_zero] at q5
            refine upTo_one (i := 30) (by kernel_rfl) rfl (fun K hK => ?_)
            go_simp
            refine hK.out _ _ (fun h => absurd rfl h) ?_
            clear hK K
            (try simp only [Act.put, List.setIfInBounds_toArray, List.set_cons_zero, List.set_cons_succ, List.getElem_toArray, List.getElem_cons_succ, List.getElem_cons_zero])
            refine upTo_done (by kernel_rfl) ?_
            clear q5 q6
            go_wp2
            go_end0
            exact ⟨rfl, HFi.out⟩
      · skip
        go_simp
        refine hK.out _ _ (fun _ => HS.out _ (HKv0.out.alloc _)) ?_
        clear hK K
        (try simp only [Act.put, List.setIfInBounds_toArray, List.set_cons_zero, List.set_cons_succ, List.getElem_toArray, List.getElem_cons_succ, List.getElem_cons_zero])
        obtain ⟨v35, HWv35⟩ := hex (v0.alloc (.cells (evs (List.replicate 2 EE)).toArray 36))
        have hwv35 : v0.alloc (.cells #[.int .i64 EE.src, .int .i64 EE.seq, .int .i64 EE.ts, .int .i64 EE.kind, .int .i64 EE.val, .int .i64 EE.src, .int .i64 EE.seq, .int .i64 EE.ts, .int .i64 EE.kind, .int .i64 EE.val] 36) = v35 := HWv35.out.symm
        rw [hwv35]
        have HKv35 : Hid (Kept (fun b => bk sa = some b) w3 v35) := by show Kept _ _ _; rw [HWv35.out]; exact HKv0.out.alloc _
        have HPv35 : Hid (∀ r, AllM v0 EE r → AllM v35 EE r) := by intro r hr; rw [HWv35.out]; exact AllM.kept hr ((Kept.refl (fun _ => False) v0).alloc _) (fun _ _ e => e)
        have HAb20 : Hid (AllM v35 EE ⟨some ⟨v0.heap.size, 0, none⟩, 2, 2⟩) := by show AllM _ _ _; rw [HWv35.out]; exact allM_new v0 EE 2 (by unfold maxLen; omega)
        clear HWv35 hwv35
        obtain ⟨g2, HG2⟩ := hex v0.heap.size
        rw [← HG2.out] at HAb20 ⊢
        have HAb2v35 : Hid (AllM v35 EE ⟨some ⟨g2, 0, none⟩, 2, 2⟩) := HAb20
        clear HAb20 HG2
        have HAlv35 : Hid (AllM v35 EE ⟨sa, L.length, sc⟩) := HPv35.out _ HAlv0.out
        refine upTo_two (i := 8) (j := 22) (by kernel_rfl) rfl rfl (fun K hK => ?_) (fun K hK => ?_)
        · skip
          go_simp
          refine hK.out _ _ (fun _ => HS.out _ (HKv35.out.alloc _)) ?_
          clear hK K
          (try simp only [Act.put, List.setIfInBounds_toArray, List.set_cons_zero, List.set_cons_succ, List.getElem_toArray, List.getElem_cons_succ, List.getElem_cons_zero])
          obtain ⟨v36, HWv36⟩ := hex (v35.alloc (.cells (evs (List.replicate 1 EE)).toArray 36))
          have hwv36 : v35.alloc (.cells #[.int .i64 EE.src, .int .i64 EE.seq, .int .i64 EE.ts, .int .i64 EE.kind, .int .i64 EE.val] 36) = v36 := HWv36.out.symm
          rw [hwv36]
          have HKv36 : Hid (Kept (fun b => bk sa = some b) w3 v36) := by show Kept _ _ _; rw [HWv36.out]; exact HKv35.out.alloc _
          have HPv36 : Hid (∀ r, AllM v35 EE r → AllM v36 EE r) := by intro r hr; rw [HWv36.out]; exact AllM.kept hr ((Kept.refl (fun _ => False) v35).alloc _) (fun _ _ e => e)
          have HAb10 : Hid (AllM v36 EE ⟨some ⟨v35.heap.size, 0, none⟩, 1, 1⟩) := by show AllM _ _ _; rw [HWv36.out]; exact allM_new v35 EE 1 (by unfold maxLen; omega)
          clear HWv36 hwv36
          obtain ⟨g1, HG1⟩ := hex v35.heap.size
          rw [← HG1.out] at HAb10 ⊢
          have HAb1v36 : Hid (AllM v36 EE ⟨some ⟨g1, 0, none⟩, 1, 1⟩) := HAb10
          clear HAb10 HG1
          have HAlv36 : Hid (AllM v36 EE ⟨sa, L.length, sc⟩) := HPv36.out _ HAlv35.out
          have HAb2v36 : Hid (AllM v36 EE ⟨some ⟨g2, 0, none⟩, 2, 2⟩) := HPv36.out _ HAb2v35.out
          refine upTo_two (i := 9) (j := 22) (by kernel_rfl) rfl rfl (fun K hK => ?_) (fun K hK => ?_)
          · skip
            refine step_append_marks (by rfl) _ _ _ (by rfl) j0 _ Try.underlying59 hj0 hy0 hy1 hy2 rfl EE ⟨sa, L.length, sc⟩ (by rfl) HAlv36.out ⟨g1, 0, none⟩ 1 1 (by rfl) (AllM.news HAb1v36.out (by omega)) (by omega) (by simp only; omega) ?_
            intro r1 v37 hn1 hra1 hpres1 hkp1 hat1
            refine hK.out _ _ (fun _ => HS.out _ (HKv36.out.trans hkp1)) ?_
            clear hK K
            unfold Sl.val
            (try simp only [Act.put, List.setIfInBounds_toArray, List.set_cons_zero, List.set_cons_succ, List.getElem_toArray, List.getElem_cons_succ, List.getElem_cons_zero])
            have HKv37 : Hid (Kept (fun b => bk sa = some b) w3 v37) := HKv36.out.trans hkp1
            have HPv37 : Hid (∀ r, AllM v36 EE r → AllM v37 EE r) := hpres1
            have HAr1v37 : Hid (AllM v37 EE r1) := hra1
            have HN1 : Hid (r1.n = L.length + 1) := hn1
            have HT1 : Hid (∀ b, bk r1.a = some b → bk sa = some b ∨ w3.heap.size ≤ b) := by
              intro b hb
              rcases hat1 with e | ⟨b', e, h1, _⟩
              · left; rw [← e]; exact hb
              · right; rw [e] at hb; simp only [Option.some.injEq] at hb; have := HKv36.out.size; omega
            clear hra1 hpres1 hkp1 hat1 hn1
            have HAlv37 : Hid (AllM v37 EE ⟨sa, L.length, sc⟩) := HPv37.out _ HAlv36.out
            have HAb2v37 : Hid (AllM v37 EE ⟨some ⟨g2, 0, none⟩, 2, 2⟩) := HPv37.out _ HAb2v36.out
            have HAb1v37 : Hid (AllM v37 EE ⟨some ⟨g1, 0, none⟩, 1, 1⟩) := HPv37.out _ HAb1v36.out
            refine upTo_two (i := 14) (j := 22) (by kernel_rfl) rfl rfl (fun K hK => ?_) (fun K hK => ?_)
            · skip
              refine step_append_marks (by rfl) _ _ _ (by rfl) j0 _ Try.underlying59 hj0 hy0 hy1 hy2 rfl EE ⟨sa, L.length, sc⟩ (by rfl) HAlv37.out ⟨g2, 0, none⟩ 2 2 (by rfl) (AllM.news HAb2v37.out (by omega)) (by omega) (by simp only; omega) ?_
              intro r2 v38 hn2 hra2 hpres2 hkp2 hat2
              refine hK.out _ _ (fun _ => HS.out _ (HKv37.out.trans hkp2)) ?_
              clear hK K
              unfold Sl.val
              (try simp only [Act.put, List.setIfInBounds_toArray, List.set_cons_zero, List.set_cons_succ, List.getElem_toArray, List.getElem_cons_succ, List.getElem_cons_zero])
              have HKv38 : Hid (Kept (fun b => bk sa = some b) w3 v38) := HKv37.out.trans hkp2
              have HPv38 : Hid (∀ r, AllM v37 EE r → AllM v38 EE r) := hpres2
              have HAr2v38 : Hid (AllM v38 EE r2) := hra2
              have HN2 : Hid (r2.n = L.length + 2) := hn2
              have HT2 : Hid (∀ b, bk r2.a = some b → bk sa = some b ∨ w3.heap.size ≤ b) := by
                intro b hb
                rcases hat2 with e | ⟨b', e, h1, _⟩
                · left; rw [← e]; exact hb
                · right; rw [e] at hb; simp only [Option.some.injEq] at hb; have := HKv37.out.size; omega
              clear hra2 hpres2 hkp2 hat2 hn2
              have HAlv38 : Hid (AllM v38 EE ⟨sa, L.length, sc⟩) := HPv38.out _ HAlv37.out
              have HAb2v38 : Hid (AllM v38 EE ⟨some ⟨g2, 0, none⟩, 2, 2⟩) := HPv38.out _ HAb2v37.out
              have HAb1v38 : Hid (AllM v38 EE ⟨some ⟨g1, 0, none⟩, 1, 1⟩) := HPv38.out _ HAb1v37.out
              have HAr1v38 : Hid (AllM v38 EE r1) := HPv38.out _ HAr1v37.out
              refine upTo_one (i := 22) (by kernel_rfl) rfl (fun K hK => ?_)
              go_simp
              refine hK.out _ _ (fun _ => HS.out _ (HKv38.out.alloc _)) ?_
              clear hK K
              (try simp only [Act.put, List.setIfInBounds_toArray, List.set_cons_zero, List.set_cons_succ, List.getElem_toArray, List.getElem_cons_succ, List.getElem_cons_zero])
              obtain ⟨v39, HWv39⟩ := hex (v38.alloc (.cells (evs (List.replicate 6 EE)).toArray 36))
              have hwv39 : v38.alloc (.cells #[.int .i64 EE.src, .int .i64 EE.seq, .int .i64 EE.ts, .int .i64 EE.kind, .int .i64 EE.val, .int .i64 EE.src, .int .i64 EE.seq, .int .i64 EE.ts, .int .i64 EE.kind, .int .i64 EE.val, .int .i64 EE.src, .int .i64 EE.seq, .int .i64 EE.ts, .int .i64 EE.kind, .int .i64 EE.val, .int .i64 EE.src, .int .i64 EE.seq, .int .i64 EE.ts, .int .i64 EE.kind, .int .i64 EE.val, .int .i64 EE.src, .int .i64 EE.seq, .int .i64 EE.ts, .int .i64 EE.kind, .int .i64 EE.val, .int .i64 EE.src, .int .i64 EE.seq, .int .i64 EE.ts, .int .i64 EE.kind, .int .i64 EE.val] 36) = v39 := HWv39.out.symm
              rw [hwv39]
              have HKv39 : Hid (Kept (fun b => bk sa = some b) w3 v39) := by show Kept _ _ _; rw [HWv39.out]; exact HKv38.out.alloc _
              have HPv39 : Hid (∀ r, AllM v38 EE r → AllM v39 EE r) := by intro r hr; rw [HWv39.out]; exact AllM.kept hr ((Kept.refl (fun _ => False) v38).alloc _) (fun _ _ e => e)
              have HAb30 : Hid (AllM v39 EE ⟨some ⟨v38.heap.size, 0, none⟩, 6, 6⟩) := by show AllM _ _ _; rw [HWv39.out]; exact allM_new v38 EE 6 (by unfold maxLen; omega)
              clear HWv39 hwv39
              obtain ⟨g3, HG3⟩ := hex v38.heap.size
              rw [← HG3.out] at HAb30 ⊢
              have HAb3v39 : Hid (AllM v39 EE ⟨some ⟨g3, 0, none⟩, 6, 6⟩) := HAb30
              clear HAb30 HG3
              have HAlv39 : Hid (AllM v39 EE ⟨sa, L.length, sc⟩) := HPv39.out _ HAlv38.out
              have HAb2v39 : Hid (AllM v39 EE ⟨some ⟨g2, 0, none⟩, 2, 2⟩) := HPv39.out _ HAb2v38.out
              have HAb1v39 : Hid (AllM v39 EE ⟨some ⟨g1, 0, none⟩, 1, 1⟩) := HPv39.out _ HAb1v38.out
              have HAr1v39 : Hid (AllM v39 EE r1) := HPv39.out _ HAr1v38.out
              have HAr2v39 : Hid (AllM v39 EE r2) := HPv39.out _ HAr2v38.out
              refine upTo_one (i := 23) (by kernel_rfl) rfl (fun K hK => ?_)
              refine step_append_marks (by rfl) _ _ _ (by rfl) j0 _ Try.underlying59 hj0 hy0 hy1 hy2 rfl EE ⟨sa, L.length, sc⟩ (by rfl) HAlv39.out ⟨g3, 0, none⟩ 6 6 (by rfl) (AllM.news HAb3v39.out (by omega)) (by omega) (by simp only; omega) ?_
              intro r3 v40 hn3 hra3 hpres3 hkp3 hat3
              refine hK.out _ _ (fun _ => HS.out _ (HKv39.out.trans hkp3)) ?_
              clear hK K
              unfold Sl.val
              (try simp only [Act.put, List.setIfInBounds_toArray, List.set_cons_zero, List.set_cons_succ, List.getElem_toArray, List.getElem_cons_succ, List.getElem_cons_zero])
              have HKv40 : Hid (Kept (fun b => bk sa = some b) w3 v40) := HKv39.out.trans hkp3
              have HPv40 : Hid (∀ r, AllM v39 EE r → AllM v40 EE r) := hpres3
              have HAr3v40 : Hid (AllM v40 EE r3) := hra3
              have HN3 : Hid (r3.n = L.length + 6) := hn3
              have HT3 : Hid (∀ b, bk r3.a = some b → bk sa = some b ∨ w3.heap.size ≤ b) := by
                intro b hb
                rcases hat3 with e | ⟨b', e, h1, _⟩
                · left; rw [← e]; exact hb
                · right; rw [e] at hb; simp only [Option.some.injEq] at hb; have := HKv39.out.size; omega
              clear hra3 hpres3 hkp3 hat3 hn3
              have HAlv40 : Hid (AllM v40 EE ⟨sa, L.length, sc⟩) := HPv40.out _ HAlv39.out
              have HAb2v40 : Hid (AllM v40 EE ⟨some ⟨g2, 0, none⟩, 2, 2⟩) := HPv40.out _ HAb2v39.out
              have HAb1v40 : Hid (AllM v40 EE ⟨some ⟨g1, 0, none⟩, 1, 1⟩) := HPv40.out _ HAb1v39.out
              have HAb3v40 : Hid (AllM v40 EE ⟨some ⟨g3, 0, none⟩, 6, 6⟩) := HPv40.out _ HAb3v39.out
              have HAr1v40 : Hid (AllM v40 EE r1) := HPv40.out _ HAr1v39.out
              have HAr2v40 : Hid (AllM v40 EE r2) := HPv40.out _ HAr2v39.out
              refine upTo_one (i := 24) (by kernel_rfl) rfl (fun K hK => ?_)
              go_simp
              refine hK.out _ _ (fun _ => HS.out _ (HKv40.out.alloc _)) ?_
              clear hK K
              (try simp only [Act.put, List.setIfInBounds_toArray, List.set_cons_zero, List.set_cons_succ, List.getElem_toArray, List.getElem_cons_succ, List.getElem_cons_zero])
              refine upTo_one (i := 25) (by kernel_rfl) rfl (fun K hK => ?_)
              go_simp
              refine hK.out _ _ (fun _ => HS.out _ (HKv40.out.alloc _)) ?_
              clear hK K
              (try simp only [Act.put, List.setIfInBounds_toArray, List.set_cons_zero, List.set_cons_succ, List.getElem_toArray, List.getElem_cons_succ, List.getElem_cons_zero])
              refine upTo_one (i := 26) (by kernel_rfl) rfl (fun K hK => ?_)
              go_simp
              refine hK.out _ _ (fun _ => HS.out _ ((HKv40.out.alloc _).alloc _)) ?_
              clear hK K
              (try simp only [Act.put, List.setIfInBounds_toArray, List.set_cons_zero, List.set_cons_succ, List.getElem_toArray, List.getElem_cons_succ, List.getElem_cons_zero])
              have HO4 : Hid (((v40.alloc (.cells #[.slice sa L.length sc, .slice r1.a r1.n r1.c, .slice r2.a r2.n r2.c, .slice r3.a r3.n r3.c] 59)).alloc (.cells #[.slice (some ⟨v40.heap.size, 0, none⟩) 4 4] 99)).ownsRow 0 99 1 (.slice a l.length c) l.length (l.map El.val)) := by
                show World.ownsRow _ _ _ _ _ _ _
                exact Row.kept (HL3.out.row) ((HKv40.out.alloc _).alloc _) (fun k e f => (D2.out k f).1 e)
              refine upTo_one (i := 27) (by kernel_rfl) rfl (fun K hK => ?_)
              refine step_append_lies _ (by rfl) _ _ _ (by rfl) 0 99 e0 _ 1 24 Try.underlying52 he0 hu0 hu1 hu2 rfl (by omega) (.slice a l.length c) l.length (l.map El.val) (by rfl) HO4.out
                ⟨v40.heap.size + 1, 0, none⟩ 1 1 [.slice (some ⟨v40.heap.size, 0, none⟩) 4 4] (by rfl) (by rfl) (news_new _ _ (by simp) [.slice (some ⟨v40.heap.size, 0, none⟩) 4 4] 99) (by simp [Value.oneCell'])
                (by omega) (by unfold maxLen; omega) (by omega) (by omega) (v40.heap.size + 2) (by simp) ?_
              intro gg cap w1 hown1 hgrow hat hlt1
              have HC : Hid (Kept (fun b => bk sa = some b ∨ bk a = some b) w3 w1) := (((HKv40.out.alloc _).alloc _).mono (fun k _ e => Or.inl e)).grown hgrow (fun k _ e => Or.inr (by rw [bk_own] at e; exact e))
              have HB1 : Hid (Blk w1 wb 56 [xv, rv, .slice a l.length c, .slice none 0 0, .slice none 0 0]) := HB3.out.kept HC.out HDw.out
              have HFin := own_close HBw.out HB0.out HL.out HSL.out D1.out D2.out D3.out D4.out D5.out HKv40.out HEE.out HAlv40.out HAr1v40.out HAr2v40.out HAr3v40.out HN1.out HN2.out HN3.out hs HT1.out HT2.out HT3.out hown1 hgrow hat
              have HFi : Hid _ := HFin
              clear HFin hown1 hgrow hat
              refine hK.out _ _ (fun _ => HS2.out _ HC.out) ?_
              clear hK K
              (try simp only [Act.put, List.setIfInBounds_toArray, List.set_cons_zero, List.set_cons_succ, List.getElem_toArray, List.getElem_cons_succ, List.getElem_cons_zero])
              refine upTo_one (i := 28) (by kernel_rfl) rfl (fun K hK => ?_)
              go_simp
              refine hK.out _ _ (fun _ => HS2.out _ HC.out) ?_
              clear hK K
              (try simp only [Act.put, List.setIfInBounds_toArray, List.set_cons_zero, List.set_cons_succ, List.getElem_toArray, List.getElem_cons_succ, List.getElem_cons_zero])
              refine upTo_one (i := 29) (by kernel_rfl) rfl (fun K hK => ?_)
              go_simp
              refine hK.out _ _ (fun _ => HS2.out _ HC.out) ?_
              clear hK K
              (try simp only [Act.put, List.setIfInBounds_toArray, List.set_cons_zero, List.set_cons_succ, List.getElem_toArray, List.getElem_cons_succ, List.getElem_cons_zero])
              have q5 := HB1.out.cell 2
              have q6 := HB1.out.frozen 2
              simp only [List.getElem?_cons_succ, List.getElem?_cons_zero] at q5
              refine upTo_one (i := 30) (by kernel_rfl) rfl (fun K hK => ?_)
              go_simp
              refine hK.out _ _ (fun h => absurd rfl h) ?_
              clear hK K
              (try simp only [Act.put, List.setIfInBounds_toArray, List.set_cons_zero, List.set_cons_succ, List.getElem_toArray, List.getElem_cons_succ, List.getElem_cons_zero])
              refine upTo_done (by kernel_rfl) ?_
              clear q5 q6
              go_wp2
              go_end0
              exact ⟨rfl, HFi.out⟩
            · skip
              go_simp
              refine hK.out _ _ (fun _ => HS.out _ (HKv37.out.alloc _)) ?_
              clear hK K
              (try simp only [Act.put, List.setIfInBounds_toArray, List.set_cons_zero, List.set_cons_succ, List.getElem_toArray, List.getElem_cons_succ, List.getElem_cons_zero])
              obtain ⟨v41, HWv41⟩ := hex (v37.alloc (.cells (evs (List.replicate 6 EE)).toArray 36))
              have hwv41 : v37.alloc (.cells #[.int .i64 EE.src, .int .i64 EE.seq, .int .i64 EE.ts, .int .i64 EE.kind, .int .i64 EE.val, .int .i64 EE.src, .int .i64 EE.seq, .int .i64 EE.ts, .int .i64 EE.kind, .int .i64 EE.val, .int .i64 EE.src, .int .i64 EE.seq, .int .i64 EE.ts, .int .i64 EE.kind, .int .i64 EE.val, .int .i64 EE.src, .int .i64 EE.seq, .int .i64 EE.ts, .int .i64 EE.kind, .int .i64 EE.val, .int .i64 EE.src, .int .i64 EE.seq, .int .i64 EE.ts, .int .i64 EE.kind, .int .i64 EE.val, .int .i64 EE.src, .int .i64 EE.seq, .int .i64 EE.ts, .int .i64 EE.kind, .int .i64 EE.val] 36) = v41 := HWv41.out.symm
              rw [hwv41]
              have HKv41 : Hid (Kept (fun b => bk sa = some b) w3 v41) := by show Kept _ _ _; rw [HWv41.out]; exact HKv37.out.alloc _
              have HPv41 : Hid (∀ r, AllM v37 EE r → AllM v41 EE r) := by intro r hr; rw [HWv41.out]; exact AllM.kept hr ((Kept.refl (fun _ => False) v37).alloc _) (fun _ _ e => e)
              have HAb30 : Hid (AllM v41 EE ⟨some ⟨v37.heap.size, 0, none⟩, 6, 6⟩) := by show AllM _ _ _; rw [HWv41.out]; exact allM_new v37 EE 6 (by unfold maxLen; omega)
              clear HWv41 hwv41
              obtain ⟨g3, HG3⟩ := hex v37.heap.size
              rw [← HG3.out] at HAb30 ⊢
              have HAb3v41 : Hid (AllM v41 EE ⟨some ⟨g3, 0, none⟩, 6, 6⟩) := HAb30
              clear HAb30 HG3
              have HAlv41 : Hid (AllM v41 EE ⟨sa, L.length, sc⟩) := HPv41.out _ HAlv37.out
              have HAb2v41 : Hid (AllM v41 EE ⟨some ⟨g2, 0, none⟩, 2, 2⟩) := HPv41.out _ HAb2v37.out
              have HAb1v41 : Hid (AllM v41 EE ⟨some ⟨g1, 0, none⟩, 1, 1⟩) := HPv41.out _ HAb1v37.out
              have HAr1v41 : Hid (AllM v41 EE r1) := HPv41.out _ HAr1v37.out
              refine upTo_one (i := 14) (by kernel_rfl) rfl (fun K hK => ?_)
              refine step_append_marks (by rfl) _ _ _ (by rfl) j0 _ Try.underlying59 hj0 hy0 hy1 hy2 rfl EE ⟨sa, L.length, sc⟩ (by rfl) HAlv41.out ⟨g2, 0, none⟩ 2 2 (by rfl) (AllM.news HAb2v41.out (by omega)) (by omega) (by simp only; omega) ?_
              intro r2 v42 hn2 hra2 hpres2 hkp2 hat2
              refine hK.out _ _ (fun _ => HS.out _ (HKv41.out.trans hkp2)) ?_
              clear hK K
              unfold Sl.val
              (try simp only [Act.put, List.setIfInBounds_toArray, List.set_cons_zero, List.set_cons_succ, List.getElem_toArray, List.getElem_cons_succ, List.getElem_cons_zero])
              have HKv42 : Hid (Kept (fun b => bk sa = some b) w3 v42) := HKv41.out.trans hkp2
              have HPv42 : Hid (∀ r, AllM v41 EE r → AllM v42 EE r) := hpres2
              have HAr2v42 : Hid (AllM v42 EE r2) := hra2
              have HN2 : Hid (r2.n = L.length + 2) := hn2
              have HT2 : Hid (∀ b, bk r2.a = some b → bk sa = some b ∨ w3.heap.size ≤ b) := by
                intro b hb
                rcases hat2 with e | ⟨b', e, h1, _⟩
                · left; rw [← e]; exact hb
                · right; rw [e] at hb; simp only [Option.some.injEq] at hb; have := HKv41.out.size; omega
              clear hra2 hpres2 hkp2 hat2 hn2
              have HAlv42 : Hid (AllM v42 EE ⟨sa, L.length, sc⟩) := HPv42.out _ HAlv41.out
              have HAb2v42 : Hid (AllM v42 EE ⟨some ⟨g2, 0, none⟩, 2, 2⟩) := HPv42.out _ HAb2v41.out
              have HAb1v42 : Hid (AllM v42 EE ⟨some ⟨g1, 0, none⟩, 1, 1⟩) := HPv42.out _ HAb1v41.out
              have HAb3v42 : Hid (AllM v42 EE ⟨some ⟨g3, 0, none⟩, 6, 6⟩) := HPv42.out _ HAb3v41.out
              have HAr1v42 : Hid (AllM v42 EE r1) := HPv42.out _ HAr1v41.out
              refine upTo_one (i := 23) (by kernel_rfl) rfl (fun K hK => ?_)
              refine step_append_marks (by rfl) _ _ _ (by rfl) j0 _ Try.underlying59 hj0 hy0 hy1 hy2 rfl EE ⟨sa, L.length, sc⟩ (by rfl) HAlv42.out ⟨g3, 0, none⟩ 6 6 (by rfl) (AllM.news HAb3v42.out (by omega)) (by omega) (by simp only; omega) ?_
              intro r3 v43 hn3 hra3 hpres3 hkp3 hat3
              refine hK.out _ _ (fun _ => HS.out _ (HKv42.out.trans hkp3)) ?_
              clear hK K
              unfold Sl.val
              (try simp only [Act.put, List.setIfInBounds_toArray, List.set_cons_zero, List.set_cons_succ, List.getElem_toArray, List.getElem_cons_succ, List.getElem_cons_zero])
              have HKv43 : Hid (Kept (fun b => bk sa = some b) w3 v43) := HKv42.out.trans hkp3
              have HPv43 : Hid (∀ r, AllM v42 EE r → AllM v43 EE r) := hpres3
              have HAr3v43 : Hid (AllM v43 EE r3) := hra3
              have HN3 : Hid (r3.n = L.length + 6) := hn3
              have HT3 : Hid (∀ b, bk r3.a = some b → bk sa = some b ∨ w3.heap.size ≤ b) := by
                intro b hb
                rcases hat3 with e | ⟨b', e, h1, _⟩
                · left; rw [← e]; exact hb
                · right; rw [e] at hb; simp only [Option.some.injEq] at hb; have := HKv42.out.size; omega
              clear hra3 hpres3 hkp3 hat3 hn3
              have HAlv43 : Hid (AllM v43 EE ⟨sa, L.length, sc⟩) := HPv43.out _ HAlv42.out
              have HAb2v43 : Hid (AllM v43 EE ⟨some ⟨g2, 0, none⟩, 2, 2⟩) := HPv43.out _ HAb2v42.out
              have HAb1v43 : Hid (AllM v43 EE ⟨some ⟨g1, 0, none⟩, 1, 1⟩) := HPv43.out _ HAb1v42.out
              have HAb3v43 : Hid (AllM v43 EE ⟨some ⟨g3, 0, none⟩, 6, 6⟩) := HPv43.out _ HAb3v42.out
              have HAr1v43 : Hid (AllM v43 EE r1) := HPv43.out _ HAr1v42.out
              have HAr2v43 : Hid (AllM v43 EE r2) := HPv43.out _ HAr2v42.out
              refine upTo_one (i := 24) (by kernel_rfl) rfl (fun K hK => ?_)
              go_simp
              refine hK.out _ _ (fun _ => HS.out _ (HKv43.out.alloc _)) ?_
              clear hK K
              (try simp only [Act.put, List.setIfInBounds_toArray, List.set_cons_zero, List.set_cons_succ, List.getElem_toArray, List.getElem_cons_succ, List.getElem_cons_zero])
              refine upTo_one (i := 25) (by kernel_rfl) rfl (fun K hK => ?_)
              go_simp
              refine hK.out _ _ (fun _ => HS.out _ (HKv43.out.alloc _)) ?_
              clear hK K
              (try simp only [Act.put, List.setIfInBounds_toArray, List.set_cons_zero, List.set_cons_succ, List.getElem_toArray, List.getElem_cons_succ, List.getElem_cons_zero])
              refine upTo_one (i := 26) (by kernel_rfl) rfl (fun K hK => ?_)
              go_simp
              refine hK.out _ _ (fun _ => HS.out _ ((HKv43.out.alloc _).alloc _)) ?_
              clear hK K
              (try simp only [Act.put, List.setIfInBounds_toArray, List.set_cons_zero, List.set_cons_succ, List.getElem_toArray, List.getElem_cons_succ, List.getElem_cons_zero])
              have HO4 : Hid (((v43.alloc (.cells #[.slice sa L.length sc, .slice r1.a r1.n r1.c, .slice r2.a r2.n r2.c, .slice r3.a r3.n r3.c] 59)).alloc (.cells #[.slice (some ⟨v43.heap.size, 0, none⟩) 4 4] 99)).ownsRow 0 99 1 (.slice a l.length c) l.length (l.map El.val)) := by
                show World.ownsRow _ _ _ _ _ _ _
                exact Row.kept (HL3.out.row) ((HKv43.out.alloc _).alloc _) (fun k e f => (D2.out k f).1 e)
              refine upTo_one (i := 27) (by kernel_rfl) rfl (fun K hK => ?_)
              refine step_append_lies _ (by rfl) _ _ _ (by rfl) 0 99 e0 _ 1 24 Try.underlying52 he0 hu0 hu1 hu2 rfl (by omega) (.slice a l.length c) l.length (l.map El.val) (by rfl) HO4.out
                ⟨v43.heap.size + 1, 0, none⟩ 1 1 [.slice (some ⟨v43.heap.size, 0, none⟩) 4 4] (by rfl) (by rfl) (news_new _ _ (by simp) [.slice (some ⟨v43.heap.size, 0, none⟩) 4 4] 99) (by simp [Value.oneCell'])
                (by omega) (by unfold maxLen; omega) (by omega) (by omega) (v43.heap.size + 2) (by simp) ?_
              intro gg cap w1 hown1 hgrow hat hlt1
              have HC : Hid (Kept (fun b => bk sa = some b ∨ bk a = some b) w3 w1) := (((HKv43.out.alloc _).alloc _).mono (fun k _ e => Or.inl e)).grown hgrow (fun k _ e => Or.inr (by rw [bk_own] at e; exact e))
              have HB1 : Hid (Blk w1 wb 56 [xv, rv, .slice a l.length c, .slice none 0 0, .slice none 0 0]) := HB3.out.kept HC.out HDw.out
              have HFin := own_close HBw.out HB0.out HL.out HSL.out D1.out D2.out D3.out D4.out D5.out HKv43.out HEE.out HAlv43.out HAr1v43.out HAr2v43.out HAr3v43.out HN1.out HN2.out HN3.out hs HT1.out HT2.out HT3.out hown1 hgrow hat
              have HFi : Hid _ := HFin
              clear HFin hown1 hgrow hat
              refine hK.out _ _ (fun _ => HS2.out _ HC.out) ?_
              clear hK K
              (try simp only [Act.put, List.setIfInBounds_toArray, List.set_cons_zero, List.set_cons_succ, List.getElem_toArray, List.getElem_cons_succ, List.getElem_cons_zero])
              refine upTo_one (i := 28) (by kernel_rfl) rfl (fun K hK => ?_)
              go_simp
              refine hK.out _ _ (fun _ => HS2.out _ HC.out) ?_
              clear hK K
              (try simp only [Act.put, List.setIfInBounds_toArray, List.set_cons_zero, List.set_cons_succ, List.getElem_toArray, List.getElem_cons_succ, List.getElem_cons_zero])
              refine upTo_one (i := 29) (by kernel_rfl) rfl (fun K hK => ?_)
              go_simp
              refine hK.out _ _ (fun _ => HS2.out _ HC.out) ?_
              clear hK K
              (try simp only [Act.put, List.setIfInBounds_toArray, List.set_cons_zero, List.set_cons_succ, List.getElem_toArray, List.getElem_cons_succ, List.getElem_cons_zero])
              have q5 := HB1.out.cell 2
              have q6 := HB1.out.frozen 2
              simp only [List.getElem?_cons_succ, List.getElem?_cons_zero] at q5
              refine upTo_one (i := 30) (by kernel_rfl) rfl (fun K hK => ?_)
              go_simp
              refine hK.out _ _ (fun h => absurd rfl h) ?_
              clear hK K
              (try simp only [Act.put, List.setIfInBounds_toArray, List.set_cons_zero, List.set_cons_succ, List.getElem_toArray, List.getElem_cons_succ, List.getElem_cons_zero])
              refine upTo_done (by kernel_rfl) ?_
              clear q5 q6
              go_wp2
              go_end0
              exact ⟨rfl, HFi.out⟩
          · skip
            go_simp
            refine hK.out _ _ (fun _ => HS.out _ (HKv36.out.alloc _)) ?_
            clear hK K
            (try simp only [Act.put, List.setIfInBounds_toArray, List.set_cons_zero, List.set_cons_succ, List.getElem_toArray, List.getElem_cons_succ, List.getElem_cons_zero])
            obtain ⟨v44, HWv44⟩ := hex (v36.alloc (.cells (evs (List.replicate 6 EE)).toArray 36))
            have hwv44 : v36.alloc (.cells #[.int .i64 EE.src, .int .i64 EE.seq, .int .i64 EE.ts, .int .i64 EE.kind, .int .i64 EE.val, .int .i64 EE.src, .int .i64 EE.seq, .int .i64 EE.ts, .int .i64 EE.kind, .int .i64 EE.val, .int .i64 EE.src, .int .i64 EE.seq, .int .i64 EE.ts, .int .i64 EE.kind, .int .i64 EE.val, .int .i64 EE.src, .int .i64 EE.seq, .int .i64 EE.ts, .int .i64 EE.kind, .int .i64 EE.val, .int .i64 EE.src, .int .i64 EE.seq, .int .i64 EE.ts, .int .i64 EE.kind, .int .i64 EE.val, .int .i64 EE.src, .int .i64 EE.seq, .int .i64 EE.ts, .int .i64 EE.kind, .int .i64 EE.val] 36) = v44 := HWv44.out.symm
            rw [hwv44]
            have HKv44 : Hid (Kept (fun b => bk sa = some b) w3 v44) := by show Kept _ _ _; rw [HWv44.out]; exact HKv36.out.alloc _
            have HPv44 : Hid (∀ r, AllM v36 EE r → AllM v44 EE r) := by intro r hr; rw [HWv44.out]; exact AllM.kept hr ((Kept.refl (fun _ => False) v36).alloc _) (fun _ _ e => e)
            have HAb30 : Hid (AllM v44 EE ⟨some ⟨v36.heap.size, 0, none⟩, 6, 6⟩) := by show AllM _ _ _; rw [HWv44.out]; exact allM_new v36 EE 6 (by unfold maxLen; omega)
            clear HWv44 hwv44
            obtain ⟨g3, HG3⟩ := hex v36.heap.size
            rw [← HG3.out] at HAb30 ⊢
            have HAb3v44 : Hid (AllM v44 EE ⟨some ⟨g3, 0, none⟩, 6, 6⟩) := HAb30
            clear HAb30 HG3
            have HAlv44 : Hid (AllM v44 EE ⟨sa, L.length, sc⟩) := HPv44.out _ HAlv36.out
            have HAb2v44 : Hid (AllM v44 EE ⟨some ⟨g2, 0, none⟩, 2, 2⟩) := HPv44.out _ HAb2v36.out
            have HAb1v44 : Hid (AllM v44 EE ⟨some ⟨g1, 0, none⟩, 1, 1⟩) := HPv44.out _ HAb1v36.out
            refine upTo_one (i := 9) (by kernel_rfl) rfl (fun K hK => ?_)
            refine step_append_marks (by rfl) _ _ _ (by rfl) j0 _ Try.underlying59 hj0 hy0 hy1 hy2 rfl EE ⟨sa, L.length, sc⟩ (by rfl) HAlv44.out ⟨g1, 0, none⟩ 1 1 (by rfl) (AllM.news HAb1v44.out (by omega)) (by omega) (by simp only; omega) ?_
            intro r1 v45 hn1 hra1 hpres1 hkp1 hat1
            refine hK.out _ _ (fun _ => HS.out _ (HKv44.out.trans hkp1)) ?_
            clear hK K
            unfold Sl.val
            (try simp only [Act.put, List.setIfInBounds_toArray, List.set_cons_zero, List.set_cons_succ, List.getElem_toArray, List.getElem_cons_succ, List.getElem_cons_zero])
            have HKv45 : Hid (Kept (fun b => bk sa = some b) w3 v45) := HKv44.out.trans hkp1
            have HPv45 : Hid (∀ r, AllM v44 EE r → AllM v45 EE r) := hpres1
            have HAr1v45 : Hid (AllM v45 EE r1) := hra1
            have HN1 : Hid (r1.n = L.length + 1) := hn1
            have HT1 : Hid (∀ b, bk r1.a = some b → bk sa = some b ∨ w3.heap.size ≤ b) := by
              intro b hb
              rcases hat1 with e | ⟨b', e, h1, _⟩
              · left; rw [← e]; exact hb
              · right; rw [e] at hb; simp only [Option.some.injEq] at hb; have := HKv44.out.size; omega
            clear hra1 hpres1 hkp1 hat1 hn1
            have HAlv45 : Hid (AllM v45 EE ⟨sa, L.length, sc⟩) := HPv45.out _ HAlv44.out
            have HAb2v45 : Hid (AllM v45 EE ⟨some ⟨g2, 0, none⟩, 2, 2⟩) := HPv45.out _ HAb2v44.out
            have HAb1v45 : Hid (AllM v45 EE ⟨some ⟨g1, 0, none⟩, 1, 1⟩) := HPv45.out _ HAb1v44.out
            have HAb3v45 : Hid (AllM v45 EE ⟨some ⟨g3, 0, none⟩, 6, 6⟩) := HPv45.out _ HAb3v44.out
            refine upTo_one (i := 14) (by kernel_rfl) rfl (fun K hK => ?_)
            refine step_append_marks (by rfl) _ _ _ (by rfl) j0 _ Try.underlying59 hj0 hy0 hy1 hy2 rfl EE ⟨sa, L.length, sc⟩ (by rfl) HAlv45.out ⟨g2, 0, none⟩ 2 2 (by rfl) (AllM.news HAb2v45.out (by omega)) (by omega) (by simp only; omega) ?_
            intro r2 v46 hn2 hra2 hpres2 hkp2 hat2
            refine hK.out _ _ (fun _ => HS.out _ (HKv45.out.trans hkp2)) ?_
            clear hK K
            unfold Sl.val
            (try simp only [Act.put, List.setIfInBounds_toArray, List.set_cons_zero, List.set_cons_succ, List.getElem_toArray, List.getElem_cons_succ, List.getElem_cons_zero])
            have HKv46 : Hid (Kept (fun b => bk sa = some b) w3 v46) := HKv45.out.trans hkp2
            have HPv46 : Hid (∀ r, AllM v45 EE r → AllM v46 EE r) := hpres2
            have HAr2v46 : Hid (AllM v46 EE r2) := hra2
            have HN2 : Hid (r2.n = L.length + 2) := hn2
            have HT2 : Hid (∀ b, bk r2.a = some b → bk sa = some b ∨ w3.heap.size ≤ b) := by
              intro b hb
              rcases hat2 with e | ⟨b', e, h1, _⟩
              · left; rw [← e]; exact hb
              · right; rw [e] at hb; simp only [Option.some.injEq] at hb; have := HKv45.out.size; omega
            clear hra2 hpres2 hkp2 hat2 hn2
            have HAlv46 : Hid (AllM v46 EE ⟨sa, L.length, sc⟩) := HPv46.out _ HAlv45.out
            have HAb2v46 : Hid (AllM v46 EE ⟨some ⟨g2, 0, none⟩, 2, 2⟩) := HPv46.out _ HAb2v45.out
            have HAb1v46 : Hid (AllM v46 EE ⟨some ⟨g1, 0, none⟩, 1, 1⟩) := HPv46.out _ HAb1v45.out
            have HAb3v46 : Hid (AllM v46 EE ⟨some ⟨g3, 0, none⟩, 6, 6⟩) := HPv46.out _ HAb3v45.out
            have HAr1v46 : Hid (AllM v46 EE r1) := HPv46.out _ HAr1v45.out
            refine upTo_one (i := 23) (by kernel_rfl) rfl (fun K hK => ?_)
            refine step_append_marks (by rfl) _ _ _ (by rfl) j0 _ Try.underlying59 hj0 hy0 hy1 hy2 rfl EE ⟨sa, L.length, sc⟩ (by rfl) HAlv46.out ⟨g3, 0, none⟩ 6 6 (by rfl) (AllM.news HAb3v46.out (by omega)) (by omega) (by simp only; omega) ?_
            intro r3 v47 hn3 hra3 hpres3 hkp3 hat3
            refine hK.out _ _ (fun _ => HS.out _ (HKv46.out.trans hkp3)) ?_
            clear hK K
            unfold Sl.val
            (try simp only [Act.put, List.setIfInBounds_toArray, List.set_cons_zero, List.set_cons_succ, List.getElem_toArray, List.getElem_cons_succ, List.getElem_cons_zero])
            have HKv47 : Hid (Kept (fun b => bk sa = some b) w3 v47) := HKv46.out.trans hkp3
            have HPv47 : Hid (∀ r, AllM v46 EE r → AllM v47 EE r) := hpres3
            have HAr3v47 : Hid (AllM v47 EE r3) := hra3
            have HN3 : Hid (r3.n = L.length + 6) := hn3
            have HT3 : Hid (∀ b, bk r3.a = some b → bk sa = some b ∨ w3.heap.size ≤ b) := by
              intro b hb
              rcases hat3 with e | ⟨b', e, h1, _⟩
              · left; rw [← e]; exact hb
              · right; rw [e] at hb; simp only [Option.some.injEq] at hb; have := HKv46.out.size; omega
            clear hra3 hpres3 hkp3 hat3 hn3
            have HAlv47 : Hid (AllM v47 EE ⟨sa, L.length, sc⟩) := HPv47.out _ HAlv46.out
            have HAb2v47 : Hid (AllM v47 EE ⟨some ⟨g2, 0, none⟩, 2, 2⟩) := HPv47.out _ HAb2v46.out
            have HAb1v47 : Hid (AllM v47 EE ⟨some ⟨g1, 0, none⟩, 1, 1⟩) := HPv47.out _ HAb1v46.out
            have HAb3v47 : Hid (AllM v47 EE ⟨some ⟨g3, 0, none⟩, 6, 6⟩) := HPv47.out _ HAb3v46.out
            have HAr1v47 : Hid (AllM v47 EE r1) := HPv47.out _ HAr1v46.out
            have HAr2v47 : Hid (AllM v47 EE r2) := HPv47.out _ HAr2v46.out
            refine upTo_one (i := 24) (by kernel_rfl) rfl (fun K hK => ?_)
            go_simp
            refine hK.out _ _ (fun _ => HS.out _ (HKv47.out.alloc _)) ?_
            clear hK K
            (try simp only [Act.put, List.setIfInBounds_toArray, List.set_cons_zero, List.set_cons_succ, List.getElem_toArray, List.getElem_cons_succ, List.getElem_cons_zero])
            refine upTo_one (i := 25) (by kernel_rfl) rfl (fun K hK => ?_)
            go_simp
            refine hK.out _ _ (fun _ => HS.out _ (HKv47.out.alloc _)) ?_
            clear hK K
            (try simp only [Act.put, List.setIfInBounds_toArray, List.set_cons_zero, List.set_cons_succ, List.getElem_toArray, List.getElem_cons_succ, List.getElem_cons_zero])
            refine upTo_one (i := 26) (by kernel_rfl) rfl (fun K hK => ?_)
            go_simp
            refine hK.out _ _ (fun _ => HS.out _ ((HKv47.out.alloc _).alloc _)) ?_
            clear hK K
            (try simp only [Act.put, List.setIfInBounds_toArray, List.set_cons_zero, List.set_cons_succ, List.getElem_toArray, List.getElem_cons_succ, List.getElem_cons_zero])
            have HO4 : Hid (((v47.alloc (.cells #[.slice sa L.length sc, .slice r1.a r1.n r1.c, .slice r2.a r2.n r2.c, .slice r3.a r3.n r3.c] 59)).alloc (.cells #[.slice (some ⟨v47.heap.size, 0, none⟩) 4 4] 99)).ownsRow 0 99 1 (.slice a l.length c) l.length (l.map El.val)) := by
              show World.ownsRow _ _ _ _ _ _ _
              exact Row.kept (HL3.out.row) ((HKv47.out.alloc _).alloc _) (fun k e f => (D2.out k f).1 e)
            refine upTo_one (i := 27) (by kernel_rfl) rfl (fun K hK => ?_)
            refine step_append_lies _ (by rfl) _ _ _ (by rfl) 0 99 e0 _ 1 24 Try.underlying52 he0 hu0 hu1 hu2 rfl (by omega) (.slice a l.length c) l.length (l.map El.val) (by rfl) HO4.out
              ⟨v47.heap.size + 1, 0, none⟩ 1 1 [.slice (some ⟨v47.heap.size, 0, none⟩) 4 4] (by rfl) (by rfl) (news_new _ _ (by simp) [.slice (some ⟨v47.heap.size, 0, none⟩) 4 4] 99) (by simp [Value.oneCell'])
              (by omega) (by unfold maxLen; omega) (by omega) (by omega) (v47.heap.size + 2) (by simp) ?_
            intro gg cap w1 hown1 hgrow hat hlt1
            have HC : Hid (Kept (fun b => bk sa = some b ∨ bk a = some b) w3 w1) := (((HKv47.out.alloc _).alloc _).mono (fun k _ e => Or.inl e)).grown hgrow (fun k _ e => Or.inr (by rw [bk_own] at e; exact e))
            have HB1 : Hid (Blk w1 wb 56 [xv, rv, .slice a l.length c, .slice none 0 0, .slice none 0 0]) := HB3.out.kept HC.out HDw.out
            have HFin := own_close HBw.out HB0.out HL.out HSL.out D1.out D2.out D3.out D4.out D5.out HKv47.out HEE.out HAlv47.out HAr1v47.out HAr2v47.out HAr3v47.out HN1.out HN2.out HN3.out hs HT1.out HT2.out HT3.out hown1 hgrow hat
            have HFi : Hid _ := HFin
            clear HFin hown1 hgrow hat
            refine hK.out _ _ (fun _ => HS2.out _ HC.out) ?_
            clear hK K
            (try simp only [Act.put, List.setIfInBounds_toArray, List.set_cons_zero, List.set_cons_succ, List.getElem_toArray, List.getElem_cons_succ, List.getElem_cons_zero])
            refine upTo_one (i := 28) (by kernel_rfl) rfl (fun K hK => ?_)
            go_simp
            refine hK.out _ _ (fun _ => HS2.out _ HC.out) ?_
            clear hK K
            (try simp only [Act.put, List.setIfInBounds_toArray, List.set_cons_zero, List.set_cons_succ, List.getElem_toArray, List.getElem_cons_succ, List.getElem_cons_zero])
            refine upTo_one (i := 29) (by kernel_rfl) rfl (fun K hK => ?_)
            go_simp
            refine hK.out _ _ (fun _ => HS2.out _ HC.out) ?_
            clear hK K
            (try simp only [Act.put, List.setIfInBounds_toArray, List.set_cons_zero, List.set_cons_succ, List.getElem_toArray, List.getElem_cons_succ, List.getElem_cons_zero])
            have q5 := HB1.out.cell 2
            have q6 := HB1.out.frozen 2
            simp only [List.getElem?_cons_succ, List.getElem?_cons_zero] at q5
            refine upTo_one (i := 30) (by kernel_rfl) rfl (fun K hK => ?_)
            go_simp
            refine hK.out _ _ (fun h => absurd rfl h) ?_
            clear hK K
            (try simp only [Act.put, List.setIfInBounds_toArray, List.set_cons_zero, List.set_cons_succ, List.getElem_toArray, List.getElem_cons_succ, List.getElem_cons_zero])
            refine upTo_done (by kernel_rfl) ?_
            clear q5 q6
            go_wp2
            go_end0
            exact ⟨rfl, HFi.out⟩
        · skip
          go_simp
          refine hK.out _ _ (fun _ => HS.out _ (HKv35.out.alloc _)) ?_
          clear hK K
          (try simp only [Act.put, List.setIfInBounds_toArray, List.set_cons_zero, List.set_cons_succ, List.getElem_toArray, List.getElem_cons_succ, List.getElem_cons_zero])
          obtain ⟨v48, HWv48⟩ := hex (v35.alloc (.cells (evs (List.replicate 6 EE)).toArray 36))
          have hwv48 : v35.alloc (.cells #[.int .i64 EE.src, .int .i64 EE.seq, .int .i64 EE.ts, .int .i64 EE.kind, .int .i64 EE.val, .int .i64 EE.src, .int .i64 EE.seq, .int .i64 EE.ts, .int .i64 EE.kind, .int .i64 EE.val, .int .i64 EE.src, .int .i64 EE.seq, .int .i64 EE.ts, .int .i64 EE.kind, .int .i64 EE.val, .int .i64 EE.src, .int .i64 EE.seq, .int .i64 EE.ts, .int .i64 EE.kind, .int .i64 EE.val, .int .i64 EE.src, .int .i64 EE.seq, .int .i64 EE.ts, .int .i64 EE.kind, .int .i64 EE.val, .int .i64 EE.src, .int .i64 EE.seq, .int .i64 EE.ts, .int .i64 EE.kind, .int .i64 EE.val] 36) = v48 := HWv48.out.symm
          rw [hwv48]
          have HKv48 : Hid (Kept (fun b => bk sa = some b) w3 v48) := by show Kept _ _ _; rw [HWv48.out]; exact HKv35.out.alloc _
          have HPv48 : Hid (∀ r, AllM v35 EE r → AllM v48 EE r) := by intro r hr; rw [HWv48.out]; exact AllM.kept hr ((Kept.refl (fun _ => False) v35).alloc _) (fun _ _ e => e)
          have HAb30 : Hid (AllM v48 EE ⟨some ⟨v35.heap.size, 0, none⟩, 6, 6⟩) := by show AllM _ _ _; rw [HWv48.out]; exact allM_new v35 EE 6 (by unfold maxLen; omega)
          clear HWv48 hwv48
          obtain ⟨g3, HG3⟩ := hex v35.heap.size
          rw [← HG3.out] at HAb30 ⊢
          have HAb3v48 : Hid (AllM v48 EE ⟨some ⟨g3, 0, none⟩, 6, 6⟩) := HAb30
          clear HAb30 HG3
          have HAlv48 : Hid (AllM v48 EE ⟨sa, L.length, sc⟩) := HPv48.out _ HAlv35.out
          have HAb2v48 : Hid (AllM v48 EE ⟨some ⟨g2, 0, none⟩, 2, 2⟩) := HPv48.out _ HAb2v35.out
          refine upTo_one (i := 8) (by kernel_rfl) rfl (fun K hK => ?_)
          go_simp
          refine hK.out _ _ (fun _ => HS.out _ (HKv48.out.alloc _)) ?_
          clear hK K
          (try simp only [Act.put, List.setIfInBounds_toArray, List.set_cons_zero, List.set_cons_succ, List.getElem_toArray, List.getElem_cons_succ, List.getElem_cons_zero])
          obtain ⟨v49, HWv49⟩ := hex (v48.alloc (.cells (evs (List.replicate 1 EE)).toArray 36))
          have hwv49 : v48.alloc (.cells #[.int .i64 EE.src, .int .i64 EE.seq, .int .i64 EE.ts, .int .i64 EE.kind, .int .i64 EE.val] 36) = v49 := HWv49.out.symm
          rw [hwv49]
          have HKv49 : Hid (Kept (fun b => bk sa = some b) w3 v49) := by show Kept _ _ _; rw [HWv49.out]; exact HKv48.out.alloc _
          have HPv49 : Hid (∀ r, AllM v48 EE r → AllM v49 EE r) := by intro r hr; rw [HWv49.out]; exact AllM.kept hr ((Kept.refl (fun _ => False) v48).alloc _) (fun _ _ e => e)
          have HAb10 : Hid (AllM v49 EE ⟨some ⟨v48.heap.size, 0, none⟩, 1, 1⟩) := by show AllM _ _ _; rw [HWv49.out]; exact allM_new v48 EE 1 (by unfold maxLen; omega)
          clear HWv49 hwv49
          obtain ⟨g1, HG1⟩ := hex v48.heap.size
          rw [← HG1.out] at HAb10 ⊢
          have HAb1v49 : Hid (AllM v49 EE ⟨some ⟨g1, 0, none⟩, 1, 1⟩) := HAb10
          clear HAb10 HG1
          have HAlv49 : Hid (AllM v49 EE ⟨sa, L.length, sc⟩) := HPv49.out _ HAlv48.out
          have HAb2v49 : Hid (AllM v49 EE ⟨some ⟨g2, 0, none⟩, 2, 2⟩) := HPv49.out _ HAb2v48.out
          have HAb3v49 : Hid (AllM v49 EE ⟨some ⟨g3, 0, none⟩, 6, 6⟩) := HPv49.out _ HAb3v48.out
          refine upTo_one (i := 9) (by kernel_rfl) rfl (fun K hK => ?_)
          refine step_append_marks (by rfl) _ _ _ (by rfl) j0 _ Try.underlying59 hj0 hy0 hy1 hy2 rfl EE ⟨sa, L.length, sc⟩ (by rfl) HAlv49.out ⟨g1, 0, none⟩ 1 1 (by rfl) (AllM.news HAb1v49.out (by omega)) (by omega) (by simp only; omega) ?_
          intro r1 v50 hn1 hra1 hpres1 hkp1 hat1
          refine hK.out _ _ (fun _ => HS.out _ (HKv49.out.trans hkp1)) ?_
          clear hK K
          unfold Sl.val
          (try simp only [Act.put, List.setIfInBounds_toArray, List.set_cons_zero, List.set_cons_succ, List.getElem_toArray, List.getElem_cons_succ, List.getElem_cons_zero])
          have HKv50 : Hid (Kept (fun b => bk sa = some b) w3 v50) := HKv49.out.trans hkp1
          have HPv50 : Hid (∀ r, AllM v49 EE r → AllM v50 EE r) := hpres1
          have HAr1v50 : Hid (AllM v50 EE r1) := hra1
          have HN1 : Hid (r1.n = L.length + 1) := hn1
          have HT1 : Hid (∀ b, bk r1.a = some b → bk sa = some b ∨ w3.heap.size ≤ b) := by
            intro b hb
            rcases hat1 with e | ⟨b', e, h1, _⟩
            · left; rw [← e]; exact hb
            · right; rw [e] at hb; simp only [Option.some.injEq] at hb; have := HKv49.out.size; omega
          clear hra1 hpres1 hkp1 hat1 hn1
          have HAlv50 : Hid (AllM v50 EE ⟨sa, L.length, sc⟩) := HPv50.out _ HAlv49.out
          have HAb2v50 : Hid (AllM v50 EE ⟨some ⟨g2, 0, none⟩, 2, 2⟩) := HPv50.out _ HAb2v49.out
          have HAb3v50 : Hid (AllM v50 EE ⟨some ⟨g3, 0, none⟩, 6, 6⟩) := HPv50.out _ HAb3v49.out
          have HAb1v50 : Hid (AllM v50 EE ⟨some ⟨g1, 0, none⟩, 1, 1⟩) := HPv50.out _ HAb1v49.out
          refine upTo_one (i := 14) (by kernel_rfl) rfl (fun K hK => ?_)
          refine step_append_marks (by rfl) _ _ _ (by rfl) j0 _ Try.underlying59 hj0 hy0 hy1 hy2 rfl EE ⟨sa, L.length, sc⟩ (by rfl) HAlv50.out ⟨g2, 0, none⟩ 2 2 (by rfl) (AllM.news HAb2v50.out (by omega)) (by omega) (by simp only; omega) ?_
          intro r2 v51 hn2 hra2 hpres2 hkp2 hat2
          refine hK.out _ _ (fun _ => HS.out _ (HKv50.out.trans hkp2)) ?_
          clear hK K
          unfold Sl.val
          (try simp only [Act.put, List.setIfInBounds_toArray, List.set_cons_zero, List.set_cons_succ, List.getElem_toArray, List.getElem_cons_succ, List.getElem_cons_zero])
          have HKv51 : Hid (Kept (fun b => bk sa = some b) w3 v51) := HKv50.out.trans hkp2
          have HPv51 : Hid (∀ r, AllM v50 EE r → AllM v51 EE r) := hpres2
          have HAr2v51 : Hid (AllM v51 EE r2) := hra2
          have HN2 : Hid (r2.n = L.length + 2) := hn2
          have HT2 : Hid (∀ b, bk r2.a = some b → bk sa = some b ∨ w3.heap.size ≤ b) := by
            intro b hb
            rcases hat2 with e | ⟨b', e, h1, _⟩
            · left; rw [← e]; exact hb
            · right; rw [e] at hb; simp only [Option.some.injEq] at hb; have := HKv50.out.size; omega
          clear hra2 hpres2 hkp2 hat2 hn2
          have HAlv51 : Hid (AllM v51 EE ⟨sa, L.length, sc⟩) := HPv51.out _ HAlv50.out
          have HAb2v51 : Hid (AllM v51 EE ⟨some ⟨g2, 0, none⟩, 2, 2⟩) := HPv51.out _ HAb2v50.out
          have HAb3v51 : Hid (AllM v51 EE ⟨some ⟨g3, 0, none⟩, 6, 6⟩) := HPv51.out _ HAb3v50.out
          have HAb1v51 : Hid (AllM v51 EE ⟨some ⟨g1, 0, none⟩, 1, 1⟩) := HPv51.out _ HAb1v50.out
          have HAr1v51 : Hid (AllM v51 EE r1) := HPv51.out _ HAr1v50.out
          refine upTo_one (i := 23) (by kernel_rfl) rfl (fun K hK => ?_)
          refine step_append_marks (by rfl) _ _ _ (by rfl) j0 _ Try.underlying59 hj0 hy0 hy1 hy2 rfl EE ⟨sa, L.length, sc⟩ (by rfl) HAlv51.out ⟨g3, 0, none⟩ 6 6 (by rfl) (AllM.news HAb3v51.out (by omega)) (by omega) (by simp only; omega) ?_
          intro r3 v52 hn3 hra3 hpres3 hkp3 hat3
          refine hK.out _ _ (fun _ => HS.out _ (HKv51.out.trans hkp3)) ?_
          clear hK K
          unfold Sl.val
          (try simp only [Act.put, List.setIfInBounds_toArray, List.set_cons_zero, List.set_cons_succ, List.getElem_toArray, List.getElem_cons_succ, List.getElem_cons_zero])
          have HKv52 : Hid (Kept (fun b => bk sa = some b) w3 v52) := HKv51.out.trans hkp3
          have HPv52 : Hid (∀ r, AllM v51 EE r → AllM v52 EE r) := hpres3
          have HAr3v52 : Hid (AllM v52 EE r3) := hra3
          have HN3 : Hid (r3.n = L.length + 6) := hn3
          have HT3 : Hid (∀ b, bk r3.a = some b → bk sa = some b ∨ w3.heap.size ≤ b) := by
            intro b hb
            rcases hat3 with e | ⟨b', e, h1, _⟩
            · left; rw [← e]; exact hb
            · right; rw [e] at hb; simp only [Option.some.injEq] at hb; have := HKv51.out.size; omega
          clear hra3 hpres3 hkp3 hat3 hn3
          have HAlv52 : Hid (AllM v52 EE ⟨sa, L.length, sc⟩) := HPv52.out _ HAlv51.out
          have HAb2v52 : Hid (AllM v52 EE ⟨some ⟨g2, 0, none⟩, 2, 2⟩) := HPv52.out _ HAb2v51.out
          have HAb3v52 : Hid (AllM v52 EE ⟨some ⟨g3, 0, none⟩, 6, 6⟩) := HPv52.out _ HAb3v51.out
          have HAb1v52 : Hid (AllM v52 EE ⟨some ⟨g1, 0, none⟩, 1, 1⟩) := HPv52.out _ HAb1v51.out
          have HAr1v52 : Hid (AllM v52 EE r1) := HPv52.out _ HAr1v51.out
          have HAr2v52 : Hid (AllM v52 EE r2) := HPv52.out _ HAr2v51.out
          refine upTo_one (i := 24) (by kernel_rfl) rfl (fun K hK => ?_)
          go_simp
          refine hK.out _ _ (fun _ => HS.out _ (HKv52.out.alloc _)) ?_
          clear hK K
          (try simp only [Act.put, List.setIfInBounds_toArray, List.set_cons_zero, List.set_cons_succ, List.getElem_toArray, List.getElem_cons_succ, List.getElem_cons_zero])
          refine upTo_one (i := 25) (by kernel_rfl) rfl (fun K hK => ?_)
          go_simp
          refine hK.out _ _ (fun _ => HS.out _ (HKv52.out.alloc _)) ?_
          clear hK K
          (try simp only [Act.put, List.setIfInBounds_toArray, List.set_cons_zero, List.set_cons_succ, List.getElem_toArray, List.getElem_cons_succ, List.getElem_cons_zero])
          refine upTo_one (i := 26) (by kernel_rfl) rfl (fun K hK => ?_)
          go_simp
          refine hK.out _ _ (fun _ => HS.out _ ((HKv52.out.alloc _).alloc _)) ?_
          clear hK K
          (try simp only [Act.put, List.setIfInBounds_toArray, List.set_cons_zero, List.set_cons_succ, List.getElem_toArray, List.getElem_cons_succ, List.getElem_cons_zero])
          have HO4 : Hid (((v52.alloc (.cells #[.slice sa L.length sc, .slice r1.a r1.n r1.c, .slice r2.a r2.n r2.c, .slice r3.a r3.n r3.c] 59)).alloc (.cells #[.slice (some ⟨v52.heap.size, 0, none⟩) 4 4] 99)).ownsRow 0 99 1 (.slice a l.length c) l.length (l.map El.val)) := by
            show World.ownsRow _ _ _ _ _ _ _
            exact Row.kept (HL3.out.row) ((HKv52.out.alloc _).alloc _) (fun k e f => (D2.out k f).1 e)
          refine upTo_one (i := 27) (by kernel_rfl) rfl (fun K hK => ?_)
          refine step_append_lies _ (by rfl) _ _ _ (by rfl) 0 99 e0 _ 1 24 Try.underlying52 he0 hu0 hu1 hu2 rfl (by omega) (.slice a l.length c) l.length (l.map El.val) (by rfl) HO4.out
            ⟨v52.heap.size + 1, 0, none⟩ 1 1 [.slice (some ⟨v52.heap.size, 0, none⟩) 4 4] (by rfl) (by rfl) (news_new _ _ (by simp) [.slice (some ⟨v52.heap.size, 0, none⟩) 4 4] 99) (by simp [Value.oneCell'])
            (by omega) (by unfold maxLen; omega) (by omega) (by omega) (v52.heap.size + 2) (by simp) ?_
          intro gg cap w1 hown1 hgrow hat hlt1
          have HC : Hid (Kept (fun b => bk sa = some b ∨ bk a = some b) w3 w1) := (((HKv52.out.alloc _).alloc _).mono (fun k _ e => Or.inl e)).grown hgrow (fun k _ e => Or.inr (by rw [bk_own] at e; exact e))
          have HB1 : Hid (Blk w1 wb 56 [xv, rv, .slice a l.length c, .slice none 0 0, .slice none 0 0]) := HB3.out.kept HC.out HDw.out
          have HFin := own_close HBw.out HB0.out HL.out HSL.out D1.out D2.out D3.out D4.out D5.out HKv52.out HEE.out HAlv52.out HAr1v52.out HAr2v52.out HAr3v52.out HN1.out HN2.out HN3.out hs HT1.out HT2.out HT3.out hown1 hgrow hat
          have HFi : Hid _ := HFin
          clear HFin hown1 hgrow hat
          refine hK.out _ _ (fun _ => HS2.out _ HC.out) ?_
          clear hK K
          (try simp only [Act.put, List.setIfInBounds_toArray, List.set_cons_zero, List.set_cons_succ, List.getElem_toArray, List.getElem_cons_succ, List.getElem_cons_zero])
          refine upTo_one (i := 28) (by kernel_rfl) rfl (fun K hK => ?_)
          go_simp
          refine hK.out _ _ (fun _ => HS2.out _ HC.out) ?_
          clear hK K
          (try simp only [Act.put, List.setIfInBounds_toArray, List.set_cons_zero, List.set_cons_succ, List.getElem_toArray, List.getElem_cons_succ, List.getElem_cons_zero])
          refine upTo_one (i := 29) (by kernel_rfl) rfl (fun K hK => ?_)
          go_simp
          refine hK.out _ _ (fun _ => HS2.out _ HC.out) ?_
          clear hK K
          (try simp only [Act.put, List.setIfInBounds_toArray, List.set_cons_zero, List.set_cons_succ, List.getElem_toArray, List.getElem_cons_succ, List.getElem_cons_zero])
          have q5 := HB1.out.cell 2
          have q6 := HB1.out.frozen 2
          simp only [List.getElem?_cons_succ, List.getElem?_cons_zero] at q5
          refine upTo_one (i := 30) (by kernel_rfl) rfl (fun K hK => ?_)
          go_simp
          refine hK.out _ _ (fun h => absurd rfl h) ?_
          clear hK K
          (try simp only [Act.put, List.setIfInBounds_toArray, List.set_cons_zero, List.set_cons_succ, List.getElem_toArray, List.getElem_cons_succ, List.getElem_cons_zero])
          refine upTo_done (by kernel_rfl) ?_
          clear q5 q6
          go_wp2
          go_end0
          exact ⟨rfl, HFi.out⟩
      · skip
        go_simp
        refine hK.out _ _ (fun _ => HS.out _ (HKv0.out.alloc _)) ?_
        clear hK K
        (try simp only [Act.put, List.setIfInBounds_toArray, List.set_cons_zero, List.set_cons_succ, List.getElem_toArray, List.getElem_cons_succ, List.getElem_cons_zero])
        obtain ⟨v53, HWv53⟩ := hex (v0.alloc (.cells (evs (List.replicate 6 EE)).toArray 36))
        have hwv53 : v0.alloc (.cells #[.int .i64 EE.src, .int .i64 EE.seq, .int .i64 EE.ts, .int .i64 EE.kind, .int .i64 EE.val, .int .i64 EE.src, .int .i64 EE.seq, .int .i64 EE.ts, .int .i64 EE.kind, .int .i64 EE.val, .int .i64 EE.src, .int .i64 EE.seq, .int .i64 EE.ts, .int .i64 EE.kind, .int .i64 EE.val, .int .i64 EE.src, .int .i64 EE.seq, .int .i64 EE.ts, .int .i64 EE.kind, .int .i64 EE.val, .int .i64 EE.src, .int .i64 EE.seq, .int .i64 EE.ts, .int .i64 EE.kind, .int .i64 EE.val, .int .i64 EE.src, .int .i64 EE.seq, .int .i64 EE.ts, .int .i64 EE.kind, .int .i64 EE.val] 36) = v53 := HWv53.out.symm
        rw [hwv53]
        have HKv53 : Hid (Kept (fun b => bk sa = some b) w3 v53) := by show Kept _ _ _; rw [HWv53.out]; exact HKv0.out.alloc _
        have HPv53 : Hid (∀ r, AllM v0 EE r → AllM v53 EE r) := by intro r hr; rw [HWv53.out]; exact AllM.kept hr ((Kept.refl (fun _ => False) v0).alloc _) (fun _ _ e => e)
        have HAb30 : Hid (AllM v53 EE ⟨some ⟨v0.heap.size, 0, none⟩, 6, 6⟩) := by show AllM _ _ _; rw [HWv53.out]; exact allM_new v0 EE 6 (by unfold maxLen; omega)
        clear HWv53 hwv53
        obtain ⟨g3, HG3⟩ := hex v0.heap.size
        rw [← HG3.out] at HAb30 ⊢
        have HAb3v53 : Hid (AllM v53 EE ⟨some ⟨g3, 0, none⟩, 6, 6⟩) := HAb30
        clear HAb30 HG3
        have HAlv53 : Hid (AllM v53 EE ⟨sa, L.length, sc⟩) := HPv53.out _ HAlv0.out
        refine upTo_two (i := 8) (j := 13) (by kernel_rfl) rfl rfl (fun K hK => ?_) (fun K hK => ?_)
        · skip
          go_simp
          refine hK.out _ _ (fun _ => HS.out _ (HKv53.out.alloc _)) ?_
          clear hK K
          (try simp only [Act.put, List.setIfInBounds_toArray, List.set_cons_zero, List.set_cons_succ, List.getElem_toArray, List.getElem_cons_succ, List.getElem_cons_zero])
          obtain ⟨v54, HWv54⟩ := hex (v53.alloc (.cells (evs (List.replicate 1 EE)).toArray 36))
          have hwv54 : v53.alloc (.cells #[.int .i64 EE.src, .int .i64 EE.seq, .int .i64 EE.ts, .int .i64 EE.kind, .int .i64 EE.val] 36) = v54 := HWv54.out.symm
          rw [hwv54]
          have HKv54 : Hid (Kept (fun b => bk sa = some b) w3 v54) := by show Kept _ _ _; rw [HWv54.out]; exact HKv53.out.alloc _
          have HPv54 : Hid (∀ r, AllM v53 EE r → AllM v54 EE r) := by intro r hr; rw [HWv54.out]; exact AllM.kept hr ((Kept.refl (fun _ => False) v53).alloc _) (fun _ _ e => e)
          have HAb10 : Hid (AllM v54 EE ⟨some ⟨v53.heap.size, 0, none⟩, 1, 1⟩) := by show AllM _ _ _; rw [HWv54.out]; exact allM_new v53 EE 1 (by unfold maxLen; omega)
          clear HWv54 hwv54
          obtain ⟨g1, HG1⟩ := hex v53.heap.size
          rw [← HG1.out] at HAb10 ⊢
          have HAb1v54 : Hid (AllM v54 EE ⟨some ⟨g1, 0, none⟩, 1, 1⟩) := HAb10
          clear HAb10 HG1
          have HAlv54 : Hid (AllM v54 EE ⟨sa, L.length, sc⟩) := HPv54.out _ HAlv53.out
          have HAb3v54 : Hid (AllM v54 EE ⟨some ⟨g3, 0, none⟩, 6, 6⟩) := HPv54.out _ HAb3v53.out
          refine upTo_two (i := 9) (j := 13) (by kernel_rfl) rfl rfl (fun K hK => ?_) (fun K hK => ?_)
          · skip
            refine step_append_marks (by rfl) _ _ _ (by rfl) j0 _ Try.underlying59 hj0 hy0 hy1 hy2 rfl EE ⟨sa, L.length, sc⟩ (by rfl) HAlv54.out ⟨g1, 0, none⟩ 1 1 (by rfl) (AllM.news HAb1v54.out (by omega)) (by omega) (by simp only; omega) ?_
            intro r1 v55 hn1 hra1 hpres1 hkp1 hat1
            refine hK.out _ _ (fun _ => HS.out _ (HKv54.out.trans hkp1)) ?_
            clear hK K
            unfold Sl.val
            (try simp only [Act.put, List.setIfInBounds_toArray, List.set_cons_zero, List.set_cons_succ, List.getElem_toArray, List.getElem_cons_succ, List.getElem_cons_zero])
            have HKv55 : Hid (Kept (fun b => bk sa = some b) w3 v55) := HKv54.out.trans hkp1
            have HPv55 : Hid (∀ r, AllM v54 EE r → AllM v55 EE r) := hpres1
            have HAr1v55 : Hid (AllM v55 EE r1) := hra1
            have HN1 : Hid (r1.n = L.length + 1) := hn1
            have HT1 : Hid (∀ b, bk r1.a = some b → bk sa = some b ∨ w3.heap.size ≤ b) := by
              intro b hb
              rcases hat1 with e | ⟨b', e, h1, _⟩
              · left; rw [← e]; exact hb
              · right; rw [e] at hb; simp only [Option.some.injEq] at hb; have := HKv54.out.size; omega
            clear hra1 hpres1 hkp1 hat1 hn1
            have HAlv55 : Hid (AllM v55 EE ⟨sa, L.length, sc⟩) := HPv55.out _ HAlv54.out
            have HAb3v55 : Hid (AllM v55 EE ⟨some ⟨g3, 0, none⟩, 6, 6⟩) := HPv55.out _ HAb3v54.out
            have HAb1v55 : Hid (AllM v55 EE ⟨some ⟨g1, 0, none⟩, 1, 1⟩) := HPv55.out _ HAb1v54.out
            refine upTo_one (i := 13) (by kernel_rfl) rfl (fun K hK => ?_)
            go_simp
            refine hK.out _ _ (fun _ => HS.out _ (HKv55.out.alloc _)) ?_
            clear hK K
            (try simp only [Act.put, List.setIfInBounds_toArray, List.set_cons_zero, List.set_cons_succ, List.getElem_toArray, List.getElem_cons_succ, List.getElem_cons_zero])
            obtain ⟨v56, HWv56⟩ := hex (v55.alloc (.cells (evs (List.replicate 2 EE)).toArray 36))
            have hwv56 : v55.alloc (.cells #[.int .i64 EE.src, .int .i64 EE.seq, .int .i64 EE.ts, .int .i64 EE.kind, .int .i64 EE.val, .int .i64 EE.src, .int .i64 EE.seq, .int .i64 EE.ts, .int .i64 EE.kind, .int .i64 EE.val] 36) = v56 := HWv56.out.symm
            rw [hwv56]
            have HKv56 : Hid (Kept (fun b => bk sa = some b) w3 v56) := by show Kept _ _ _; rw [HWv56.out]; exact HKv55.out.alloc _
            have HPv56 : Hid (∀ r, AllM v55 EE r → AllM v56 EE r) := by intro r hr; rw [HWv56.out]; exact AllM.kept hr ((Kept.refl (fun _ => False) v55).alloc _) (fun _ _ e => e)
            have HAb20 : Hid (AllM v56 EE ⟨some ⟨v55.heap.size, 0, none⟩, 2, 2⟩) := by show AllM _ _ _; rw [HWv56.out]; exact allM_new v55 EE 2 (by unfold maxLen; omega)
            clear HWv56 hwv56
            obtain ⟨g2, HG2⟩ := hex v55.heap.size
            rw [← HG2.out] at HAb20 ⊢
            have HAb2v56 : Hid (AllM v56 EE ⟨some ⟨g2, 0, none⟩, 2, 2⟩) := HAb20
            clear HAb20 HG2
            have HAlv56 : Hid (AllM v56 EE ⟨sa, L.length, sc⟩) := HPv56.out _ HAlv55.out
            have HAb3v56 : Hid (AllM v56 EE ⟨some ⟨g3, 0, none⟩, 6, 6⟩) := HPv56.out _ HAb3v55.out
            have HAb1v56 : Hid (AllM v56 EE ⟨some ⟨g1, 0, none⟩, 1, 1⟩) := HPv56.out _ HAb1v55.out
            have HAr1v56 : Hid (AllM v56 EE r1) := HPv56.out _ HAr1v55.out
            refine upTo_one (i := 14) (by kernel_rfl) rfl (fun K hK => ?_)
            refine step_append_marks (by rfl) _ _ _ (by rfl) j0 _ Try.underlying59 hj0 hy0 hy1 hy2 rfl EE ⟨sa, L.length, sc⟩ (by rfl) HAlv56.out ⟨g2, 0, none⟩ 2 2 (by rfl) (AllM.news HAb2v56.out (by omega)) (by omega) (by simp only; omega) ?_
            intro r2 v57 hn2 hra2 hpres2 hkp2 hat2
            refine hK.out _ _ (fun _ => HS.out _ (HKv56.out.trans hkp2)) ?_
            clear hK K
            unfold Sl.val
            (try simp only [Act.put, List.setIfInBounds_toArray, List.set_cons_zero, List.set_cons_succ, List.getElem_toArray, List.getElem_cons_succ, List.getElem_cons_zero])
            have HKv57 : Hid (Kept (fun b => bk sa = some b) w3 v57) := HKv56.out.trans hkp2
            have HPv57 : Hid (∀ r, AllM v56 EE r → AllM v57 EE r) := hpres2
            have HAr2v57 : Hid (AllM v57 EE r2) := hra2
            have HN2 : Hid (r2.n = L.length + 2) := hn2
            have HT2 : Hid (∀ b, bk r2.a = some b → bk sa = some b ∨ w3.heap.size ≤ b) := by
              intro b hb
              rcases hat2 with e | ⟨b', e, h1, _⟩
              · left; rw [← e]; exact hb
              · right; rw [e] at hb; simp only [Option.some.injEq] at hb; have := HKv56.out.size; omega
            clear hra2 hpres2 hkp2 hat2 hn2
            have HAlv57 : Hid (AllM v57 EE ⟨sa, L.length, sc⟩) := HPv57.out _ HAlv56.out
            have HAb3v57 : Hid (AllM v57 EE ⟨some ⟨g3, 0, none⟩, 6, 6⟩) := HPv57.out _ HAb3v56.out
            have HAb1v57 : Hid (AllM v57 EE ⟨some ⟨g1, 0, none⟩, 1, 1⟩) := HPv57.out _ HAb1v56.out
            have HAb2v57 : Hid (AllM v57 EE ⟨some ⟨g2, 0, none⟩, 2, 2⟩) := HPv57.out _ HAb2v56.out
            have HAr1v57 : Hid (AllM v57 EE r1) := HPv57.out _ HAr1v56.out
            refine upTo_one (i := 23) (by kernel_rfl) rfl (fun K hK => ?_)
            refine step_append_marks (by rfl) _ _ _ (by rfl) j0 _ Try.underlying59 hj0 hy0 hy1 hy2 rfl EE ⟨sa, L.length, sc⟩ (by rfl) HAlv57.out ⟨g3, 0, none⟩ 6 6 (by rfl) (AllM.news HAb3v57.out (by omega)) (by omega) (by simp only; omega) ?_
            intro r3 v58 hn3 hra3 hpres3 hkp3 hat3
            refine hK.out _ _ (fun _ => HS.out _ (HKv57.out.trans hkp3)) ?_
            clear hK K
            unfold Sl.val
            (try simp only [Act.put, List.setIfInBounds_toArray, List.set_cons_zero, List.set_cons_succ, List.getElem_toArray, List.getElem_cons_succ, List.getElem_cons_zero])
            have HKv58 : Hid (Kept (fun b => bk sa = some b) w3 v58) := HKv57.out.trans hkp3
            have HPv58 : Hid (∀ r, AllM v57 EE r → AllM v58 EE r) := hpres3
            have HAr3v58 : Hid (AllM v58 EE r3) := hra3
            have HN3 : Hid (r3.n = L.length + 6) := hn3
            have HT3 : Hid (∀ b, bk r3.a = some b → bk sa = some b ∨ w3.heap.size ≤ b) := by
              intro b hb
              rcases hat3 with e | ⟨b', e, h1, _⟩
              · left; rw [← e]; exact hb
              · right; rw [e] at hb; simp only [Option.some.injEq] at hb; have := HKv57.out.size; omega
            clear hra3 hpres3 hkp3 hat3 hn3
            have HAlv58 : Hid (AllM v58 EE ⟨sa, L.length, sc⟩) := HPv58.out _ HAlv57.out
            have HAb3v58 : Hid (AllM v58 EE ⟨some ⟨g3, 0, none⟩, 6, 6⟩) := HPv58.out _ HAb3v57.out
            have HAb1v58 : Hid (AllM v58 EE ⟨some ⟨g1, 0, none⟩, 1, 1⟩) := HPv58.out _ HAb1v57.out
            have HAb2v58 : Hid (AllM v58 EE ⟨some ⟨g2, 0, none⟩, 2, 2⟩) := HPv58.out _ HAb2v57.out
            have HAr1v58 : Hid (AllM v58 EE r1) := HPv58.out _ HAr1v57.out
            have HAr2v58 : Hid (AllM v58 EE r2) := HPv58.out _ HAr2v57.out
            refine upTo_one (i := 24) (by kernel_rfl) rfl (fun K hK => ?_)
            go_simp
            refine hK.out _ _ (fun _ => HS.out _ (HKv58.out.alloc _)) ?_
            clear hK K
            (try simp only [Act.put, List.setIfInBounds_toArray, List.set_cons_zero, List.set_cons_succ, List.getElem_toArray, List.getElem_cons_succ, List.getElem_cons_zero])
            refine upTo_one (i := 25) (by kernel_rfl) rfl (fun K hK => ?_)
            go_simp
            refine hK.out _ _ (fun _ => HS.out _ (HKv58.out.alloc _)) ?_
            clear hK K
            (try simp only [Act.put, List.setIfInBounds_toArray, List.set_cons_zero, List.set_cons_succ, List.getElem_toArray, List.getElem_cons_succ, List.getElem_cons_zero])
            refine upTo_one (i := 26) (by kernel_rfl) rfl (fun K hK => ?_)
            go_simp
            refine hK.out _ _ (fun _ => HS.out _ ((HKv58.out.alloc _).alloc _)) ?_
            clear hK K
            (try simp only [Act.put, List.setIfInBounds_toArray, List.set_cons_zero, List.set_cons_succ, List.getElem_toArray, List.getElem_cons_succ, List.getElem_cons_zero])
            have HO4 : Hid (((v58.alloc (.cells #[.slice sa L.length sc, .slice r1.a r1.n r1.c, .slice r2.a r2.n r2.c, .slice r3.a r3.n r3.c] 59)).alloc (.cells #[.slice (some ⟨v58.heap.size, 0, none⟩) 4 4] 99)).ownsRow 0 99 1 (.slice a l.length c) l.length (l.map El.val)) := by
              show World.ownsRow _ _ _ _ _ _ _
              exact Row.kept (HL3.out.row) ((HKv58.out.alloc _).alloc _) (fun k e f => (D2.out k f).1 e)
            refine upTo_one (i := 27) (by kernel_rfl) rfl (fun K hK => ?_)
            refine step_append_lies _ (by rfl) _ _ _ (by rfl) 0 99 e0 _ 1 24 Try.underlying52 he0 hu0 hu1 hu2 rfl (by omega) (.slice a l.length c) l.length (l.map El.val) (by rfl) HO4.out
              ⟨v58.heap.size + 1, 0, none⟩ 1 1 [.slice (some ⟨v58.heap.size, 0, none⟩) 4 4] (by rfl) (by rfl) (news_new _ _ (by simp) [.slice (some ⟨v58.heap.size, 0, none⟩) 4 4] 99) (by simp [Value.oneCell'])
              (by omega) (by unfold maxLen; omega) (by omega) (by omega) (v58.heap.size + 2) (by simp) ?_
            intro gg cap w1 hown1 hgrow hat hlt1
            have HC : Hid (Kept (fun b => bk sa = some b ∨ bk a = some b) w3 w1) := (((HKv58.out.alloc _).alloc _).mono (fun k _ e => Or.inl e)).grown hgrow (fun k _ e => Or.inr (by rw [bk_own] at e; exact e))
            have HB1 : Hid (Blk w1 wb 56 [xv, rv, .slice a l.length c, .slice none 0 0, .slice none 0 0]) := HB3.out.kept HC.out HDw.out
            have HFin := own_close HBw.out HB0.out HL.out HSL.out D1.out D2.out D3.out D4.out D5.out HKv58.out HEE.out HAlv58.out HAr1v58.out HAr2v58.out HAr3v58.out HN1.out HN2.out HN3.out hs HT1.out HT2.out HT3.out hown1 hgrow hat
            have HFi : Hid _ := HFin
            clear HFin hown1 hgrow hat
            refine hK.out _ _ (fun _ => HS2.out _ HC.out) ?_
            clear hK K
            (try simp only [Act.put, List.setIfInBounds_toArray, List.set_cons_zero, List.set_cons_succ, List.getElem_toArray, List.getElem_cons_succ, List.getElem_cons_zero])
            refine upTo_one (i := 28) (by kernel_rfl) rfl (fun K hK => ?_)
            go_simp
            refine hK.out _ _ (fun _ => HS2.out _ HC.out) ?_
            clear hK K
            (try simp only [Act.put, List.setIfInBounds_toArray, List.set_cons_zero, List.set_cons_succ, List.getElem_toArray, List.getElem_cons_succ, List.getElem_cons_zero])
            refine upTo_one (i := 29) (by kernel_rfl) rfl (fun K hK => ?_)
            go_simp
            refine hK.out _ _ (fun _ => HS2.out _ HC.out) ?_
            clear hK K
            (try simp only [Act.put, List.setIfInBounds_toArray, List.set_cons_zero, List.set_cons_succ, List.getElem_toArray, List.getElem_cons_succ, List.getElem_cons_zero])
            have q5 := HB1.out.cell 2
            have q6 := HB1.out.frozen 2
            simp only [List.getElem?_cons_succ, List.getElem?_cons_zero] at q5
            refine upTo_one (i := 30) (by kernel_rfl) rfl (fun K hK => ?_)
            go_simp
            refine hK.out _ _ (fun h => absurd rfl h) ?_
            clear hK K
            (try simp only [Act.put, List.setIfInBounds_toArray, List.set_cons_zero, List.set_cons_succ, List.getElem_toArray, List.getElem_cons_succ, List.getElem_cons_zero])
            refine upTo_done (by kernel_rfl) ?_
            clear q5 q6
            go_wp2
            go_end0
            exact ⟨rfl, HFi.out⟩
          · skip
            go_simp
            refine hK.out _ _ (fun _ => HS.out _ (HKv54.out.alloc _)) ?_
            clear hK K
            (try simp only [Act.put, List.setIfInBounds_toArray, List.set_cons_zero, List.set_cons_succ, List.getElem_toArray, List.getElem_cons_succ, List.getElem_cons_zero])
            obtain ⟨v59, HWv59⟩ := hex (v54.alloc (.cells (evs (List.replicate 2 EE)).toArray 36))
            have hwv59 : v54.alloc (.cells #[.int .i64 EE.src, .int .i64 EE.seq, .int .i64 EE.ts, .int .i64 EE.kind, .int .i64 EE.val, .int .i64 EE.src, .int .i64 EE.seq, .int .i64 EE.ts, .int .i64 EE.kind, .int .i64 EE.val] 36) = v59 := HWv59.out.symm
            rw [hwv59]
            have HKv59 : Hid (Kept (fun b => bk sa = some b) w3 v59) := by show Kept _ _ _; rw [HWv59.out]; exact HKv54.out.alloc _
            have HPv59 : Hid (∀ r, AllM v54 EE r → AllM v59 EE r) := by intro r hr; rw [HWv59.out]; exact AllM.kept hr ((Kept.refl (fun _ => False) v54).alloc _) (fun _ _ e => e)
            have HAb20 : Hid (AllM v59 EE ⟨some ⟨v54.heap.size, 0, none⟩, 2, 2⟩) := by show AllM _ _ _; rw [HWv59.out]; exact allM_new v54 EE 2 (by unfold maxLen; omega)
            clear HWv59 hwv59
            obtain ⟨g2, HG2⟩ := hex v54.heap.size
            rw [← HG2.out] at HAb20 ⊢
            have HAb2v59 : Hid (AllM v59 EE ⟨some ⟨g2, 0, none⟩, 2, 2⟩) := HAb20
            clear HAb20 HG2
            have HAlv59 : Hid (AllM v59 EE ⟨sa, L.length, sc⟩) := HPv59.out _ HAlv54.out
            have HAb3v59 : Hid (AllM v59 EE ⟨some ⟨g3, 0, none⟩, 6, 6⟩) := HPv59.out _ HAb3v54.out
            have HAb1v59 : Hid (AllM v59 EE ⟨some ⟨g1, 0, none⟩, 1, 1⟩) := HPv59.out _ HAb1v54.out
            refine upTo_one (i := 9) (by kernel_rfl) rfl (fun K hK => ?_)
            refine step_append_marks (by rfl) _ _ _ (by rfl) j0 _ Try.underlying59 hj0 hy0 hy1 hy2 rfl EE ⟨sa, L.length, sc⟩ (by rfl) HAlv59.out ⟨g1, 0, none⟩ 1 1 (by rfl) (AllM.news HAb1v59.out (by omega)) (by omega) (by simp only; omega) ?_
            intro r1 v60 hn1 hra1 hpres1 hkp1 hat1
            refine hK.out _ _ (fun _ => HS.out _ (HKv59.out.trans hkp1)) ?_
            clear hK K
            unfold Sl.val
            (try simp only [Act.put, List.setIfInBounds_toArray, List.set_cons_zero, List.set_cons_succ, List.getElem_toArray, List.getElem_cons_succ, List.getElem_cons_zero])
            have HKv60 : Hid (Kept (fun b => bk sa = some b) w3 v60) := HKv59.out.trans hkp1
            have HPv60 : Hid (∀ r, AllM v59 EE r → AllM v60 EE r) := hpres1
            have HAr1v60 : Hid (AllM v60 EE r1) := hra1
            have HN1 : Hid (r1.n = L.length + 1) := hn1
            have HT1 : Hid (∀ b, bk r1.a = some b → bk sa = some b ∨ w3.heap.size ≤ b) := by
              intro b hb
              rcases hat1 with e | ⟨b', e, h1, _⟩
              · left; rw [← e]; exact hb
              · right; rw [e] at hb; simp only [Option.some.injEq] at hb; have := HKv59.out.size; omega
            clear hra1 hpres1 hkp1 hat1 hn1
            have HAlv60 : Hid (AllM v60 EE ⟨sa, L.length, sc⟩) := HPv60.out _ HAlv59.out
            have HAb3v60 : Hid (AllM v60 EE ⟨some ⟨g3, 0, none⟩, 6, 6⟩) := HPv60.out _ HAb3v59.out
            have HAb1v60 : Hid (AllM v60 EE ⟨some ⟨g1, 0, none⟩, 1, 1⟩) := HPv60.out _ HAb1v59.out
            have HAb2v60 : Hid (AllM v60 EE ⟨some ⟨g2, 0, none⟩, 2, 2⟩) := HPv60.out _ HAb2v59.out
            refine upTo_one (i := 14) (by kernel_rfl) rfl (fun K hK => ?_)
            refine step_append_marks (by rfl) _ _ _ (by rfl) j0 _ Try.underlying59 hj0 hy0 hy1 hy2 rfl EE ⟨sa, L.length, sc⟩ (by rfl) HAlv60.out ⟨g2, 0, none⟩ 2 2 (by rfl) (AllM.news HAb2v60.out (by omega)) (by omega) (by simp only; omega) ?_
            intro r2 v61 hn2 hra2 hpres2 hkp2 hat2
            refine hK.out _ _ (fun _ => HS.out _ (HKv60.out.trans hkp2)) ?_
            clear hK K
            unfold Sl.val
            (try simp only [Act.put, List.setIfInBounds_toArray, List.set_cons_zero, List.set_cons_succ, List.getElem_toArray, List.getElem_cons_succ, List.getElem_cons_zero])
            have HKv61 : Hid (Kept (fun b => bk sa = some b) w3 v61) := HKv60.out.trans hkp2
            have HPv61 : Hid (∀ r, AllM v60 EE r → AllM v61 EE r) := hpres2
            have HAr2v61 : Hid (AllM v61 EE r2) := hra2
            have HN2 : Hid (r2.n = L.length + 2) := hn2
            have HT2 : Hid (∀ b, bk r2.a = some b → bk sa = some b ∨ w3.heap.size ≤ b) := by
              intro b hb
              rcases hat2 with e | ⟨b', e, h1, _⟩
              · left; rw [← e]; exact hb
              · right; rw [e] at hb; simp only [Option.some.injEq] at hb; have := HKv60.out.size; omega
            clear hra2 hpres2 hkp2 hat2 hn2
            have HAlv61 : Hid (AllM v61 EE ⟨sa, L.length, sc⟩) := HPv61.out _ HAlv60.out
            have HAb3v61 : Hid (AllM v61 EE ⟨some ⟨g3, 0, none⟩, 6, 6⟩) := HPv61.out _ HAb3v60.out
            have HAb1v61 : Hid (AllM v61 EE ⟨some ⟨g1, 0, none⟩, 1, 1⟩) := HPv61.out _ HAb1v60.out
            have HAb2v61 : Hid (AllM v61 EE ⟨some ⟨g2, 0, none⟩, 2, 2⟩) := HPv61.out _ HAb2v60.out
            have HAr1v61 : Hid (AllM v61 EE r1) := HPv61.out _ HAr1v60.out
            refine upTo_one (i := 23) (by kernel_rfl) rfl (fun K hK => ?_)
            refine step_append_marks (by rfl) _ _ _ (by rfl) j0 _ Try.underlying59 hj0 hy0 hy1 hy2 rfl EE ⟨sa, L.length, sc⟩ (by rfl) HAlv61.out ⟨g3, 0, none⟩ 6 6 (by rfl) (AllM.news HAb3v61.out (by omega)) (by omega) (by simp only; omega) ?_
            intro r3 v62 hn3 hra3 hpres3 hkp3 hat3
            refine hK.out _ _ (fun _ => HS.out _ (HKv61.out.trans hkp3)) ?_
            clear hK K
            unfold Sl.val
            (try simp only [Act.put, List.setIfInBounds_toArray, List.set_cons_zero, List.set_cons_succ, List.getElem_toArray, List.getElem_cons_succ, List.getElem_cons_zero])
            have HKv62 : Hid (Kept (fun b => bk sa = some b) w3 v62) := HKv61.out.trans hkp3
            have HPv62 : Hid (∀ r, AllM v61 EE r → AllM v62 EE r) := hpres3
            have HAr3v62 : Hid (AllM v62 EE r3) := hra3
            have HN3 : Hid (r3.n = L.length + 6) := hn3
            have HT3 : Hid (∀ b, bk r3.a = some b → bk sa = some b ∨ w3.heap.size ≤ b) := by
              intro b hb
              rcases hat3 with e | ⟨b', e, h1, _⟩
              · left; rw [← e]; exact hb
              · right; rw [e] at hb; simp only [Option.some.injEq] at hb; have := HKv61.out.size; omega
            clear hra3 hpres3 hkp3 hat3 hn3
            have HAlv62 : Hid (AllM v62 EE ⟨sa, L.length, sc⟩) := HPv62.out _ HAlv61.out
            have HAb3v62 : Hid (AllM v62 EE ⟨some ⟨g3, 0, none⟩, 6, 6⟩) := HPv62.out _ HAb3v61.out
            have HAb1v62 : Hid (AllM v62 EE ⟨some ⟨g1, 0, none⟩, 1, 1⟩) := HPv62.out _ HAb1v61.out
            have HAb2v62 : Hid (AllM v62 EE ⟨some ⟨g2, 0, none⟩, 2, 2⟩) := HPv62.out _ HAb2v61.out
            have HAr1v62 : Hid (AllM v62 EE r1) := HPv62.out _ HAr1v61.out
            have HAr2v62 : Hid (AllM v62 EE r2) := HPv62.out _ HAr2v61.out
            refine upTo_one (i := 24) (by kernel_rfl) rfl (fun K hK => ?_)
            go_simp
            refine hK.out _ _ (fun _ => HS.out _ (HKv62.out.alloc _)) ?_
            clear hK K
            (try simp only [Act.put, List.setIfInBounds_toArray, List.set_cons_zero, List.set_cons_succ, List.getElem_toArray, List.getElem_cons_succ, List.getElem_cons_zero])
            refine upTo_one (i := 25) (by kernel_rfl) rfl (fun K hK => ?_)
            go_simp
            refine hK.out _ _ (fun _ => HS.out _ (HKv62.out.alloc _)) ?_
            clear hK K
            (try simp only [Act.put, List.setIfInBounds_toArray, List.set_cons_zero, List.set_cons_succ, List.getElem_toArray, List.getElem_cons_succ, List.getElem_cons_zero])
            refine upTo_one (i := 26) (by kernel_rfl) rfl (fun K hK => ?_)
            go_simp
            refine hK.out _ _ (fun _ => HS.out _ ((HKv62.out.alloc _).alloc _)) ?_
            clear hK K
            (try simp only [Act.put, List.setIfInBounds_toArray, List.set_cons_zero, List.set_cons_succ, List.getElem_toArray, List.getElem_cons_succ, List.getElem_cons_zero])
            have HO4 : Hid (((v62.alloc (.cells #[.slice sa L.length sc, .slice r1.a r1.n r1.c, .slice r2.a r2.n r2.c, .slice r3.a r3.n r3.c] 59)).alloc (.cells #[.slice (some ⟨v62.heap.size, 0, none⟩) 4 4] 99)).ownsRow 0 99 1 (.slice a l.length c) l.length (l.map El.val)) := by
              show World.ownsRow _ _ _ _ _ _ _
              exact Row.kept (HL3.out.row) ((HKv62.out.alloc _).alloc _) (fun k e f => (D2.out k f).1 e)
            refine upTo_one (i := 27) (by kernel_rfl) rfl (fun K hK => ?_)
            refine step_append_lies _ (by rfl) _ _ _ (by rfl) 0 99 e0 _ 1 24 Try.underlying52 he0 hu0 hu1 hu2 rfl (by omega) (.slice a l.length c) l.length (l.map El.val) (by rfl) HO4.out
              ⟨v62.heap.size + 1, 0, none⟩ 1 1 [.slice (some ⟨v62.heap.size, 0, none⟩) 4 4] (by rfl) (by rfl) (news_new _ _ (by simp) [.slice (some ⟨v62.heap.size, 0, none⟩) 4 4] 99) (by simp [Value.oneCell'])
              (by omega) (by unfold maxLen; omega) (by omega) (by omega) (v62.heap.size + 2) (by simp) ?_
            intro gg cap w1 hown1 hgrow hat hlt1
            have HC : Hid (Kept (fun b => bk sa = some b ∨ bk a = some b) w3 w1) := (((HKv62.out.alloc _).alloc _).mono (fun k _ e => Or.inl e)).grown hgrow (fun k _ e => Or.inr (by rw [bk_own] at e; exact e))
            have HB1 : Hid (Blk w1 wb 56 [xv, rv, .slice a l.length c, .slice none 0 0, .slice none 0 0]) := HB3.out.kept HC.out HDw.out
            have HFin := own_close HBw.out HB0.out HL.out HSL.out D1.out D2.out D3.out D4.out D5.out HKv62.out HEE.out HAlv62.out HAr1v62.out HAr2v62.out HAr3v62.out HN1.out HN2.out HN3.out hs HT1.out HT2.out HT3.out hown1 hgrow hat
            have HFi : Hid _ := HFin
            clear HFin hown1 hgrow hat
            refine hK.out _ _ (fun _ => HS2.out _ HC.out) ?_
            clear hK K
            (try simp only [Act.put, List.setIfInBounds_toArray, List.set_cons_zero, List.set_cons_succ, List.getElem_toArray, List.getElem_cons_succ, List.getElem_cons_zero])
            refine upTo_one (i := 28) (by kernel_rfl) rfl (fun K hK => ?_)
            go_simp
            refine hK.out _ _ (fun _ => HS2.out _ HC.out) ?_
            clear hK K
            (try simp only [Act.put, List.setIfInBounds_toArray, List.set_cons_zero, List.set_cons_succ, List.getElem_toArray, List.getElem_cons_succ, List.getElem_cons_zero])
            refine upTo_one (i := 29) (by kernel_rfl) rfl (fun K hK => ?_)
            go_simp
            refine hK.out _ _ (fun _ => HS2.out _ HC.out) ?_
            clear hK K
            (try simp only [Act.put, List.setIfInBounds_toArray, List.set_cons_zero, List.set_cons_succ, List.getElem_toArray, List.getElem_cons_succ, List.getElem_cons_zero])
            have q5 := HB1.out.cell 2
            have q6 := HB1.out.frozen 2
            simp only [List.getElem?_cons_succ, List.getElem?_cons_zero] at q5
            refine upTo_one (i := 30) (by kernel_rfl) rfl (fun K hK => ?_)
            go_simp
            refine hK.out _ _ (fun h => absurd rfl h) ?_
            clear hK K
            (try simp only [Act.put, List.setIfInBounds_toArray, List.set_cons_zero, List.set_cons_succ, List.getElem_toArray, List.getElem_cons_succ, List.getElem_cons_zero])
            refine upTo_done (by kernel_rfl) ?_
            clear q5 q6
            go_wp2
            go_end0
            exact ⟨rfl, HFi.out⟩
        · skip
          go_simp
          refine hK.out _ _ (fun _ => HS.out _ (HKv53.out.alloc _)) ?_
          clear hK K
          (try simp only [Act.put, List.setIfInBounds_toArray, List.set_cons_zero, List.set_cons_succ, List.getElem_toArray, List.getElem_cons_succ, List.getElem_cons_zero])
          obtain ⟨v63, HWv63⟩ := hex (v53.alloc (.cells (evs (List.replicate 2 EE)).toArray 36))
          have hwv63 : v53.alloc (.cells #[.int .i64 EE.src, .int .i64 EE.seq, .int .i64 EE.ts, .int .i64 EE.kind, .int .i64 EE.val, .int .i64 EE.src, .int .i64 EE.seq, .int .i64 EE.ts, .int .i64 EE.kind, .int .i64 EE.val] 36) = v63 := HWv63.out.symm
          rw [hwv63]
          have HKv63 : Hid (Kept (fun b => bk sa = some b) w3 v63) := by show Kept _ _ _; rw [HWv63.out]; exact HKv53.out.alloc _
          have HPv63 : Hid (∀ r, AllM v53 EE r → AllM v63 EE r) := by intro r hr; rw [HWv63.out]; exact AllM.kept hr ((Kept.refl (fun _ => False) v53).alloc _) (fun _ _ e => e)
          have HAb20 : Hid (AllM v63 EE ⟨some ⟨v53.heap.size, 0, none⟩, 2, 2⟩) := by show AllM _ _ _; rw [HWv63.out]; exact allM_new v53 EE 2 (by unfold maxLen; omega)
          clear HWv63 hwv63
          obtain ⟨g2, HG2⟩ := hex v53.heap.size
          rw [← HG2.out] at HAb20 ⊢
          have HAb2v63 : Hid (AllM v63 EE ⟨some ⟨g2, 0, none⟩, 2, 2⟩) := HAb20
          clear HAb20 HG2
          have HAlv63 : Hid (AllM v63 EE ⟨sa, L.length, sc⟩) := HPv63.out _ HAlv53.out
          have HAb3v63 : Hid (AllM v63 EE ⟨some ⟨g3, 0, none⟩, 6, 6⟩) := HPv63.out _ HAb3v53.out
          refine upTo_one (i := 8) (by kernel_rfl) rfl (fun K hK => ?_)
          go_simp
          refine hK.out _ _ (fun _ => HS.out _ (HKv63.out.alloc _)) ?_
          clear hK K
          (try simp only [Act.put, List.setIfInBounds_toArray, List.set_cons_zero, List.set_cons_succ, List.getElem_toArray, List.getElem_cons_succ, List.getElem_cons_zero])
          obtain ⟨v64, HWv64⟩ := hex (v63.alloc (.cells (evs (List.replicate 1 EE)).toArray 36))
          have hwv64 : v63.alloc (.cells #[.int .i64 EE.src, .int .i64 EE.seq, .int .i64 EE.ts, .int .i64 EE.kind, .int .i64 EE.val] 36) = v64 := HWv64.out.symm
          rw [hwv64]
          have HKv64 : Hid (Kept (fun b => bk sa = some b) w3 v64) := by show Kept _ _ _; rw [HWv64.out]; exact HKv63.out.alloc _
          have HPv64 : Hid (∀ r, AllM v63 EE r → AllM v64 EE r) := by intro r hr; rw [HWv64.out]; exact AllM.kept hr ((Kept.refl (fun _ => False) v63).alloc _) (fun _ _ e => e)
          have HAb10 : Hid (AllM v64 EE ⟨some ⟨v63.heap.size, 0, none⟩, 1, 1⟩) := by show AllM _ _ _; rw [HWv64.out]; exact allM_new v63 EE 1 (by unfold maxLen; omega)
          clear HWv64 hwv64
          obtain ⟨g1, HG1⟩ := hex v63.heap.size
          rw [← HG1.out] at HAb10 ⊢
          have HAb1v64 : Hid (AllM v64 EE ⟨some ⟨g1, 0, none⟩, 1, 1⟩) := HAb10
          clear HAb10 HG1
          have HAlv64 : Hid (AllM v64 EE ⟨sa, L.length, sc⟩) := HPv64.out _ HAlv63.out
          have HAb3v64 : Hid (AllM v64 EE ⟨some ⟨g3, 0, none⟩, 6, 6⟩) := HPv64.out _ HAb3v63.out
          have HAb2v64 : Hid (AllM v64 EE ⟨some ⟨g2, 0, none⟩, 2, 2⟩) := HPv64.out _ HAb2v63.out
          refine upTo_one (i := 9) (by kernel_rfl) rfl (fun K hK => ?_)
          refine step_append_marks (by rfl) _ _ _ (by rfl) j0 _ Try.underlying59 hj0 hy0 hy1 hy2 rfl EE ⟨sa, L.length, sc⟩ (by rfl) HAlv64.out ⟨g1, 0, none⟩ 1 1 (by rfl) (AllM.news HAb1v64.out (by omega)) (by omega) (by simp only; omega) ?_
          intro r1 v65 hn1 hra1 hpres1 hkp1 hat1
          refine hK.out _ _ (fun _ => HS.out _ (HKv64.out.trans hkp1)) ?_
          clear hK K
          unfold Sl.val
          (try simp only [Act.put, List.setIfInBounds_toArray, List.set_cons_zero, List.set_cons_succ, List.getElem_toArray, List.getElem_cons_succ, List.getElem_cons_zero])
          have HKv65 : Hid (Kept (fun b => bk sa = some b) w3 v65) := HKv64.out.trans hkp1
          have HPv65 : Hid (∀ r, AllM v64 EE r → AllM v65 EE r) := hpres1
          have HAr1v65 : Hid (AllM v65 EE r1) := hra1
          have HN1 : Hid (r1.n = L.length + 1) := hn1
          have HT1 : Hid (∀ b, bk r1.a = some b → bk sa = some b ∨ w3.heap.size ≤ b) := by
            intro b hb
            rcases hat1 with e | ⟨b', e, h1, _⟩
            · left; rw [← e]; exact hb
            · right; rw [e] at hb; simp only [Option.some.injEq] at hb; have := HKv64.out.size; omega
          clear hra1 hpres1 hkp1 hat1 hn1
          have HAlv65 : Hid (AllM v65 EE ⟨sa, L.length, sc⟩) := HPv65.out _ HAlv64.out
          have HAb3v65 : Hid (AllM v65 EE ⟨some ⟨g3, 0, none⟩, 6, 6⟩) := HPv65.out _ HAb3v64.out
          have HAb2v65 : Hid (AllM v65 EE ⟨some ⟨g2, 0, none⟩, 2, 2⟩) := HPv65.out _ HAb2v64.out
          have HAb1v65 : Hid (AllM v65 EE ⟨some ⟨g1, 0, none⟩, 1, 1⟩) := HPv65.out _ HAb1v64.out
          refine upTo_one (i := 14) (by kernel_rfl) rfl (fun K hK => ?_)
          refine step_append_marks (by rfl) _ _ _ (by rfl) j0 _ Try.underlying59 hj0 hy0 hy1 hy2 rfl EE ⟨sa, L.length, sc⟩ (by rfl) HAlv65.out ⟨g2, 0, none⟩ 2 2 (by rfl) (AllM.news HAb2v65.out (by omega)) (by omega) (by simp only; omega) ?_
          intro r2 v66 hn2 hra2 hpres2 hkp2 hat2
          refine hK.out _ _ (fun _ => HS.out _ (HKv65.out.trans hkp2)) ?_
          clear hK K
          unfold Sl.val
          (try simp only [Act.put, List.setIfInBounds_toArray, List.set_cons_zero, List.set_cons_succ, List.getElem_toArray, List.getElem_cons_succ, List.getElem_cons_zero])
          have HKv66 : Hid (Kept (fun b => bk sa = some b) w3 v66) := HKv65.out.trans hkp2
          have HPv66 : Hid (∀ r, AllM v65 EE r → AllM v66 EE r) := hpres2
          have HAr2v66 : Hid (AllM v66 EE r2) := hra2
          have HN2 : Hid (r2.n = L.length + 2) := hn2
          have HT2 : Hid (∀ b, bk r2.a = some b → bk sa = some b ∨ w3.heap.size ≤ b) := by
            intro b hb
            rcases hat2 with e | ⟨b', e, h1, _⟩
            · left; rw [← e]; exact hb
            · right; rw [e] at hb; simp only [Option.some.injEq] at hb; have := HKv65.out.size; omega
          clear hra2 hpres2 hkp2 hat2 hn2
          have HAlv66 : Hid (AllM v66 EE ⟨sa, L.length, sc⟩) := HPv66.out _ HAlv65.out
          have HAb3v66 : Hid (AllM v66 EE ⟨some ⟨g3, 0, none⟩, 6, 6⟩) := HPv66.out _ HAb3v65.out
          have HAb2v66 : Hid (AllM v66 EE ⟨some ⟨g2, 0, none⟩, 2, 2⟩) := HPv66.out _ HAb2v65.out
          have HAb1v66 : Hid (AllM v66 EE ⟨some ⟨g1, 0, none⟩, 1, 1⟩) := HPv66.out _ HAb1v65.out
          have HAr1v66 : Hid (AllM v66 EE r1) := HPv66.out _ HAr1v65.out
          refine upTo_one (i := 23) (by kernel_rfl) rfl (fun K hK => ?_)
          refine step_append_marks (by rfl) _ _ _ (by rfl) j0 _ Try.underlying59 hj0 hy0 hy1 hy2 rfl EE ⟨sa, L.length, sc⟩ (by rfl) HAlv66.out ⟨g3, 0, none⟩ 6 6 (by rfl) (AllM.news HAb3v66.out (by omega)) (by omega) (by simp only; omega) ?_
          intro r3 v67 hn3 hra3 hpres3 hkp3 hat3
          refine hK.out _ _ (fun _ => HS.out _ (HKv66.out.trans hkp3)) ?_
          clear hK K
          unfold Sl.val
          (try simp only [Act.put, List.setIfInBounds_toArray, List.set_cons_zero, List.set_cons_succ, List.getElem_toArray, List.getElem_cons_succ, List.getElem_cons_zero])
          have HKv67 : Hid (Kept (fun b => bk sa = some b) w3 v67) := HKv66.out.trans hkp3
          have HPv67 : Hid (∀ r, AllM v66 EE r → AllM v67 EE r) := hpres3
          have HAr3v67 : Hid (AllM v67 EE r3) := hra3
          have HN3 : Hid (r3.n = L.length + 6) := hn3
          have HT3 : Hid (∀ b, bk r3.a = some b → bk sa = some b ∨ w3.heap.size ≤ b) := by
            intro b hb
            rcases hat3 with e | ⟨b', e, h1, _⟩
            · left; rw [← e]; exact hb
            · right; rw [e] at hb; simp only [Option.some.injEq] at hb; have := HKv66.out.size; omega
          clear hra3 hpres3 hkp3 hat3 hn3
          have HAlv67 : Hid (AllM v67 EE ⟨sa, L.length, sc⟩) := HPv67.out _ HAlv66.out
          have HAb3v67 : Hid (AllM v67 EE ⟨some ⟨g3, 0, none⟩, 6, 6⟩) := HPv67.out _ HAb3v66.out
          have HAb2v67 : Hid (AllM v67 EE ⟨some ⟨g2, 0, none⟩, 2, 2⟩) := HPv67.out _ HAb2v66.out
          have HAb1v67 : Hid (AllM v67 EE ⟨some ⟨g1, 0, none⟩, 1, 1⟩) := HPv67.out _ HAb1v66.out
          have HAr1v67 : Hid (AllM v67 EE r1) := HPv67.out _ HAr1v66.out
          have HAr2v67 : Hid (AllM v67 EE r2) := HPv67.out _ HAr2v66.out
          refine upTo_one (i := 24) (by kernel_rfl) rfl (fun K hK => ?_)
          go_simp
          refine hK.out _ _ (fun _ => HS.out _ (HKv67.out.alloc _)) ?_
          clear hK K
          (try simp only [Act.put, List.setIfInBounds_toArray, List.set_cons_zero, List.set_cons_succ, List.getElem_toArray, List.getElem_cons_succ, List.getElem_cons_zero])
          refine upTo_one (i := 25) (by kernel_rfl) rfl (fun K hK => ?_)
          go_simp
          refine hK.out _ _ (fun _ => HS.out _ (HKv67.out.alloc _)) ?_
          clear hK K
          (try simp only [Act.put, List.setIfInBounds_toArray, List.set_cons_zero, List.set_cons_succ, List.getElem_toArray, List.getElem_cons_succ, List.getElem_cons_zero])
          refine upTo_one (i := 26) (by kernel_rfl) rfl (fun K hK => ?_)
          go_simp
          refine hK.out _ _ (fun _ => HS.out _ ((HKv67.out.alloc _).alloc _)) ?_
          clear hK K
          (try simp only [Act.put, List.setIfInBounds_toArray, List.set_cons_zero, List.set_cons_succ, List.getElem_toArray, List.getElem_cons_succ, List.getElem_cons_zero])
          have HO4 : Hid (((v67.alloc (.cells #[.slice sa L.length sc, .slice r1.a r1.n r1.c, .slice r2.a r2.n r2.c, .slice r3.a r3.n r3.c] 59)).alloc (.cells #[.slice (some ⟨v67.heap.size, 0, none⟩) 4 4] 99)).ownsRow 0 99 1 (.slice a l.length c) l.length (l.map El.val)) := by
            show World.ownsRow _ _ _ _ _ _ _
            exact Row.kept (HL3.out.row) ((HKv67.out.alloc _).alloc _) (fun k e f => (D2.out k f).1 e)
          refine upTo_one (i := 27) (by kernel_rfl) rfl (fun K hK => ?_)
          refine step_append_lies _ (by rfl) _ _ _ (by rfl) 0 99 e0 _ 1 24 Try.underlying52 he0 hu0 hu1 hu2 rfl (by omega) (.slice a l.length c) l.length (l.map El.val) (by rfl) HO4.out
            ⟨v67.heap.size + 1, 0, none⟩ 1 1 [.slice (some ⟨v67.heap.size, 0, none⟩) 4 4] (by rfl) (by rfl) (news_new _ _ (by simp) [.slice (some ⟨v67.heap.size, 0, none⟩) 4 4] 99) (by simp [Value.oneCell'])
            (by omega) (by unfold maxLen; omega) (by omega) (by omega) (v67.heap.size + 2) (by simp) ?_
          intro gg cap w1 hown1 hgrow hat hlt1
          have HC : Hid (Kept (fun b => bk sa = some b ∨ bk a = some b) w3 w1) := (((HKv67.out.alloc _).alloc _).mono (fun k _ e => Or.inl e)).grown hgrow (fun k _ e => Or.inr (by rw [bk_own] at e; exact e))
          have HB1 : Hid (Blk w1 wb 56 [xv, rv, .slice a l.length c, .slice none 0 0, .slice none 0 0]) := HB3.out.kept HC.out HDw.out
          have HFin := own_close HBw.out HB0.out HL.out HSL.out D1.out D2.out D3.out D4.out D5.out HKv67.out HEE.out HAlv67.out HAr1v67.out HAr2v67.out HAr3v67.out HN1.out HN2.out HN3.out hs HT1.out HT2.out HT3.out hown1 hgrow hat
          have HFi : Hid _ := HFin
          clear HFin hown1 hgrow hat
          refine hK.out _ _ (fun _ => HS2.out _ HC.out) ?_
          clear hK K
          (try simp only [Act.put, List.setIfInBounds_toArray, List.set_cons_zero, List.set_cons_succ, List.getElem_toArray, List.getElem_cons_succ, List.getElem_cons_zero])
          refine upTo_one (i := 28) (by kernel_rfl) rfl (fun K hK => ?_)
          go_simp
          refine hK.out _ _ (fun _ => HS2.out _ HC.out) ?_
          clear hK K
          (try simp only [Act.put, List.setIfInBounds_toArray, List.set_cons_zero, List.set_cons_succ, List.getElem_toArray, List.getElem_cons_succ, List.getElem_cons_zero])
          refine upTo_one (i := 29) (by kernel_rfl) rfl (fun K hK => ?_)
          go_simp
          refine hK.out _ _ (fun _ => HS2.out _ HC.out) ?_
          clear hK K
          (try simp only [Act.put, List.setIfInBounds_toArray, List.set_cons_zero, List.set_cons_succ, List.getElem_toArray, List.getElem_cons_succ, List.getElem_cons_zero])
          have q5 := HB1.out.cell 2
          have q6 := HB1.out.frozen 2
          simp only [List.getElem?_cons_succ, List.getElem?_cons_zero] at q5
          refine upTo_one (i := 30) (by kernel_rfl) rfl (fun K hK => ?_)
          go_simp
          refine hK.out _ _ (fun h => absurd rfl h) ?_
          clear hK K
          (try simp only [Act.put, List.setIfInBounds_toArray, List.set_cons_zero, List.set_cons_succ, List.getElem_toArray, List.getElem_cons_succ, List.getElem_cons_zero])
          refine upTo_done (by kernel_rfl) ?_
          clear q5 q6
          go_wp2
          go_end0
          exact ⟨rfl, HFi.out⟩
end Go.Proofs.Ytghcololkgeoeaa
