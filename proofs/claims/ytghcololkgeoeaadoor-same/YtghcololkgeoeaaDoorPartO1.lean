import Derived.Test.YtghcololkgeoeaaDoorPartO0
import Derived.Test.YtghcololkgeoeaaDoorPartL9
import Derived.Deep.DeepCutAuto
import Derived.Test.YtghcololkgeoeaaDoorPartL2
namespace Go.Proofs.YtghcololkgeoeaaDoor
open Go.RowKit
set_option linter.unusedVariables false
set_option linter.unusedSimpArgs false
attribute [local go_sem ↓] Go.wp_at_zero Go.wp_at_succ

theorem Tryd.infoAct : (Tryd.prog.info? 39).map (fun i => (i.zero, i.size, i.bytes)) = some (some (.agg #[.int .i64 0, .int .i64 0, .int .i64 0, .int .i64 0, .int .i64 0, .int .i64 0, .int .i64 0, .int .i64 0]), 8, 64) := by kernel_rfl
theorem Tryd.infoActs : (Tryd.prog.info? 24).map (fun i => (i.zero, i.size, i.bytes)) = some (some (.slice none 0 0), 1, 24) := by kernel_rfl
/-- lists of acts that came in -/
def StrAt (w : World) (a : Option Addr) (S : List (List ActR)) : Prop := ∀ (i : Nat) (hi : i < S.length), ∃ b off sa sc, a = some ⟨b, off, none⟩ ∧ b < w.heap.size ∧ w.cell? ⟨b, off + i, none⟩ = some (.slice sa S[i].length sc) ∧ ActsAt w sa S[i] ∧ ∀ x ∈ S[i], EvI x.E
theorem StrAt.below {w w' : World} {a : Option Addr} {S : List (List ActR)} (h : StrAt w a S) (hb : Below w.heap.size w w') : StrAt w' a S := by
  intro i hi
  obtain ⟨b, off, sa, sc, h1, h2, h3, h4, h5⟩ := h i hi
  exact ⟨b, off, sa, sc, h1, Nat.lt_of_lt_of_le h2 hb.size, (hb.cell (p := ⟨b, off + i, none⟩) h2).trans h3, h4.below hb, h5⟩
def rawOf (S : List (List ActR)) (s : Nat) : List ActR := S[s]?.getD []
def planL (room : Int) (S : List (List ActR)) (n : Nat) : List (List PA) := (List.range n).map (fun s => planS room s (rawOf S s))
theorem planL_len (room : Int) (S : List (List ActR)) (n : Nat) : (planL room S n).length = n := by unfold planL; simp
theorem planL_succ (room : Int) (S : List (List ActR)) (n : Nat) : planL room S (n + 1) = planL room S n ++ [planS room n (rawOf S n)] := by unfold planL; rw [List.range_succ, List.map_append]; rfl
theorem PD.snoc {L : List (Option Nat)} (h : PD L) {x : Option Nat} (hx : ∀ k, x = some k → some k ∉ L) : PD (L ++ [x]) := by
  intro i j k hi hj
  have key : ∀ i, (L ++ [x])[i]? = some (some k) → (L[i]? = some (some k) ∧ i < L.length) ∨ (i = L.length ∧ x = some k) := by
    intro i hi
    by_cases e : i < L.length
    · rw [List.getElem?_append_left e] at hi; exact Or.inl ⟨hi, e⟩
    · rw [List.getElem?_append_right (by omega)] at hi
      have hz : i - L.length = 0 := by have := (List.getElem?_eq_some_iff.1 hi).1; simp at this; omega
      rw [hz] at hi
      simp at hi
      exact Or.inr ⟨by omega, hi⟩
  rcases key i hi with ⟨a1, a2⟩ | ⟨a1, a2⟩ <;> rcases key j hj with ⟨b1, b2⟩ | ⟨b1, b2⟩
  · exact h i j k a1 b1
  · exact absurd (List.mem_of_getElem? a1) (hx k b2)
  · exact absurd (List.mem_of_getElem? b1) (hx k a2)
  · omega
/-- one more source's list -/
theorem MemP.grow {wr wa w2 wb w4 : World} {pb : Nat} {P : Pl} {la : Option Addr} {lc g2 cap g4 cap4 : Nat} {l : List PA} (h : MemP wr pb P)
    (hl : Row wr 39 8 la l.length lc (l.flatMap PA.cells)) (hln : ∀ k, bk la = some k → some k ∉ P.fp pb)
    (hba : Below wr.heap.size wr wa) (hown : w2.ownsRow 0 24 1 (.slice (some ⟨g2, 0, none⟩) (P.L.length + 1) cap) (P.L.length + 1) (P.outV ++ [.slice la l.length lc])) (hgrow : wa.grownBy w2 (bk P.pa)) (hat : bk P.pa = some g2 ∨ wa.heap.size ≤ g2)
    (hbb : Below w2.heap.size (w2.setCell ⟨pb, 0, none⟩ (.slice (some ⟨g2, 0, none⟩) (P.L.length + 1) cap)) wb) (hown4 : w4.ownsRow 0 3 1 (.slice (some ⟨g4, 0, none⟩) (P.L.length + 1) cap4) (P.L.length + 1) (natV P.K ++ [.int .i64 0])) (hgrow4 : wb.grownBy w4 (bk P.ta)) (hat4 : bk P.ta = some g4 ∨ wb.heap.size ≤ g4) :
    MemP (w4.setCell ⟨pb, 1, none⟩ (.slice (some ⟨g4, 0, none⟩) (P.L.length + 1) cap4)) pb ⟨some ⟨g2, 0, none⟩, cap, P.ms ++ [(la, lc)], P.L ++ [l], some ⟨g4, 0, none⟩, cap4, P.K ++ [0]⟩ ∧ Kept (fun k => some k ∈ P.fp pb) wr (w4.setCell ⟨pb, 1, none⟩ (.slice (some ⟨g4, 0, none⟩) (P.L.length + 1) cap4)) ∧ (bk P.pa = some g2 ∨ wr.heap.size ≤ g2) ∧ (bk P.ta = some g4 ∨ wr.heap.size ≤ g4) ∧ Blk w2 pb 99 [.slice P.pa P.L.length P.pc, .slice P.ta P.L.length P.tc] ∧ Blk w4 pb 99 [.slice (some ⟨g2, 0, none⟩) (P.L.length + 1) cap, .slice P.ta P.L.length P.tc] := by
  have i0 : (P.fp pb)[0]? = some (some pb) := rfl
  have i1 : (P.fp pb)[1]? = some (bk P.pa) := rfl
  have i2 : (P.fp pb)[2]? = some (bk P.ta) := rfl
  have hlt := h.fp_lt
  have hs1 := hba.size
  have K2 : Kept (fun k => bk P.pa = some k) wr w2 := ((Kept.refl _ wr).below hba).grown hgrow (fun k _ e => e)
  have hpbne : bk P.pa ≠ some pb := fun e => by have := h.dis 0 1 pb i0 (by rw [i1, e]); omega
  have htbne : bk P.ta ≠ some pb := fun e => by have := h.dis 0 2 pb i0 (by rw [i2, e]); omega
  have hptne : ∀ k, bk P.pa = some k → bk P.ta ≠ some k := fun k e f => by have := h.dis 1 2 k (by rw [i1, e]) (by rw [i2, f]); omega
  have hbox2 := h.box.kept K2 hpbne
  have hs2 := K2.size
  have Kc : Kept (fun k => k = pb) w2 (w2.setCell ⟨pb, 0, none⟩ (.slice (some ⟨g2, 0, none⟩) (P.L.length + 1) cap)) := (Kept.refl (fun k => k = pb) w2).setCell (fun _ => rfl) _
  have hsz3 : (w2.setCell ⟨pb, 0, none⟩ (.slice (some ⟨g2, 0, none⟩) (P.L.length + 1) cap)).heap.size = w2.heap.size := by simp
  have hbb' : Below (w2.setCell ⟨pb, 0, none⟩ (.slice (some ⟨g2, 0, none⟩) (P.L.length + 1) cap)).heap.size (w2.setCell ⟨pb, 0, none⟩ (.slice (some ⟨g2, 0, none⟩) (P.L.length + 1) cap)) wb := by rw [hsz3]; exact hbb
  have K4 : Kept (fun k => bk P.ta = some k) (w2.setCell ⟨pb, 0, none⟩ (.slice (some ⟨g2, 0, none⟩) (P.L.length + 1) cap)) w4 := ((Kept.refl _ _).below hbb').grown hgrow4 (fun k _ e => e)
  have hbox3 : Blk (w2.setCell ⟨pb, 0, none⟩ (.slice (some ⟨g2, 0, none⟩) (P.L.length + 1) cap)) pb 99 [.slice (some ⟨g2, 0, none⟩) (P.L.length + 1) cap, .slice P.ta P.L.length P.tc] := hbox2.set 0 _
  have hbox4 := hbox3.kept K4 htbne
  have K5 : Kept (fun k => k = pb) w4 (w4.setCell ⟨pb, 1, none⟩ (.slice (some ⟨g4, 0, none⟩) (P.L.length + 1) cap4)) := (Kept.refl (fun k => k = pb) w4).setCell (fun _ => rfl) _
  have hs4 : w2.heap.size ≤ w4.heap.size := by have := K4.size; omega
  have hswb : w2.heap.size ≤ wb.heap.size := by have := hbb'.size; omega
  have hg2lt : g2 < w2.heap.size := (World.ownsRow.lt hown g2 rfl).2
  have hpblt : pb < wr.heap.size := h.box.lt
  have hg2pb : g2 ≠ pb := by
    rcases hat with e | e
    · intro f; exact hpbne (by rw [e, f])
    · omega
  have hg2ta : bk P.ta ≠ some g2 := by
    rcases hat with e | e
    · exact hptne g2 e
    · intro f; have := hlt g2 (by rw [← f]; exact List.mem_of_getElem? i2); omega
  have hg4pb : g4 ≠ pb := by
    rcases hat4 with e | e
    · intro f; exact htbne (by rw [e, f])
    · omega
  have hg42 : g4 ≠ g2 := by
    rcases hat4 with e | e
    · intro f; exact hg2ta (by rw [e, f])
    · omega
  have hin : ∀ k, (some k ∈ P.ms.map (fun m => bk m.1)) → bk P.pa ≠ some k ∧ bk P.ta ≠ some k ∧ k ≠ pb := by
    intro k hk
    obtain ⟨j, hj⟩ := List.mem_iff_getElem?.1 hk
    have hj' : (P.fp pb)[3 + j]? = some (some k) := by unfold Pl.fp; rw [List.getElem?_append_right (by simp), show 3 + j - [some pb, bk P.pa, bk P.ta].length = j by simp]; exact hj
    refine ⟨fun e => ?_, fun e => ?_, fun e => ?_⟩
    · have := h.dis 1 (3 + j) k (by rw [i1, e]) hj'; omega
    · have := h.dis 2 (3 + j) k (by rw [i2, e]) hj'; omega
    · have := h.dis 0 (3 + j) k (by rw [i0, e]) hj'; omega
  have hgo : ∀ {k : Nat} {r : Option Addr} {n c sz : Nat} {t : TypeId} {xs : List Value}, Row wr t sz r n c xs → (∀ k, bk r = some k → bk P.pa ≠ some k ∧ bk P.ta ≠ some k ∧ k ≠ pb) → Row (w4.setCell ⟨pb, 1, none⟩ (.slice (some ⟨g4, 0, none⟩) (P.L.length + 1) cap4)) t sz r n c xs := by
    intro k r n c sz t xs hr hh
    exact (((hr.kept K2 (fun k e => (hh k e).1)).kept Kc (fun k e => (hh k e).2.2)).kept K4 (fun k e => (hh k e).2.1)).kept K5 (fun k e => (hh k e).2.2)
  have hlb : ∀ k, bk la = some k → bk P.pa ≠ some k ∧ bk P.ta ≠ some k ∧ k ≠ pb := by
    intro k e
    have hn := hln k e
    refine ⟨fun f => hn ?_, fun f => hn ?_, fun f => hn ?_⟩
    · rw [← f]; exact List.mem_of_getElem? i1
    · rw [← f]; exact List.mem_of_getElem? i2
    · rw [f]; exact List.mem_of_getElem? i0
  refine ⟨⟨?_, ?_, ?_, by simp [h.mlen], ?_, by simp [h.klen], ?_⟩, ?_, ?_, ?_, hbox2, hbox4⟩
  · have := hbox4.set 1 (.slice (some ⟨g4, 0, none⟩) (P.L.length + 1) cap4)
    simpa using this
  · have e : (⟨some ⟨g2, 0, none⟩, cap, P.ms ++ [(la, lc)], P.L ++ [l], some ⟨g4, 0, none⟩, cap4, P.K ++ [0]⟩ : Pl).outV = P.outV ++ [.slice la l.length lc] := by
      unfold Pl.outV
      rw [List.zip_append h.mlen, List.map_append]; rfl
    rw [e, List.length_append]
    have hr : Row w2 24 1 (some ⟨g2, 0, none⟩) (P.L.length + 1) cap (P.outV ++ [.slice la l.length lc]) := hown
    exact ((hr.kept Kc (fun k e f => hg2pb (by simp [bk] at e; omega))).kept K4 (fun k e f => hg2ta (by rw [f]; exact e.symm))).kept K5 (fun k e f => hg2pb (by simp [bk] at e; omega))
  · intro i m l' hm hl'
    by_cases hi : i < P.ms.length
    · have hm : (P.ms ++ [(la, lc)])[i]? = some m := hm
      have hl' : (P.L ++ [l])[i]? = some l' := hl'
      rw [List.getElem?_append_left hi] at hm
      rw [List.getElem?_append_left (by rw [← h.mlen]; exact hi)] at hl'
      exact hgo (k := 0) (h.inn i m l' hm hl') (fun k e => hin k (List.mem_map.2 ⟨m, List.mem_of_getElem? hm, e⟩))
    · have hm : (P.ms ++ [(la, lc)])[i]? = some m := hm
      have hl' : (P.L ++ [l])[i]? = some l' := hl'
      rw [List.getElem?_append_right (by omega)] at hm
      rw [List.getElem?_append_right (by rw [← h.mlen]; omega)] at hl'
      have i0' : i - P.ms.length = 0 := by have := (List.getElem?_eq_some_iff.1 hm).1; simp at this; omega
      rw [i0'] at hm
      rw [← h.mlen, i0'] at hl'
      simp only [List.getElem?_cons_zero, Option.some.injEq] at hm hl'
      subst hm; subst hl'
      exact hgo (k := 0) hl hlb
  · have hr : Row w4 3 1 (some ⟨g4, 0, none⟩) (P.L.length + 1) cap4 (natV P.K ++ [.int .i64 0]) := hown4
    have e : natV (P.K ++ [0]) = natV P.K ++ [.int .i64 0] := by unfold natV; rw [List.map_append]; rfl
    show Row _ _ _ (some ⟨g4, 0, none⟩) (P.L ++ [l]).length cap4 (natV (P.K ++ [0]))
    rw [e, List.length_append]
    exact hr.kept K5 (fun k e f => hg4pb (by simp [bk] at e; omega))
  · have d1 : PD ((P.fp pb).set 1 (some g2)) := h.dis.set hlt (by
      rcases hat with e | e
      · exact Or.inl (by rw [i1, e])
      · exact Or.inr ⟨g2, rfl, by omega⟩)
    have d2 : PD (((P.fp pb).set 1 (some g2)).set 2 (some g4)) := d1.set (H := w2.heap.size) (by
      intro k hk
      rcases List.mem_or_eq_of_mem_set hk with hk | hk
      · have := hlt k hk; omega
      · rw [Option.some.inj hk]; exact hg2lt) (by
      rcases hat4 with e | e
      · left
        rw [List.getElem?_set, if_neg (by omega), i2, e]
      · exact Or.inr ⟨g4, rfl, by omega⟩)
    have e : (⟨some ⟨g2, 0, none⟩, cap, P.ms ++ [(la, lc)], P.L ++ [l], some ⟨g4, 0, none⟩, cap4, P.K ++ [0]⟩ : Pl).fp pb = (((P.fp pb).set 1 (some g2)).set 2 (some g4)) ++ [bk la] := by
      unfold Pl.fp
      simp [bk]
    rw [e]
    refine d2.snoc (fun k hk hm => ?_)
    have hkl : k < wr.heap.size := hl.lt hk
    rcases List.mem_or_eq_of_mem_set hm with hm | hm
    · rcases List.mem_or_eq_of_mem_set hm with hm | hm
      · exact hln k hk hm
      · have hk2 : k = g2 := Option.some.inj hm
        rcases hat with e | e
        · exact (hlb k hk).1 (by rw [e, hk2])
        · omega
    · have hk4 : k = g4 := Option.some.inj hm
      rcases hat4 with e | e
      · exact (hlb k hk).2.1 (by rw [e, hk4])
      · omega
  · have q1 : Kept (fun k => some k ∈ P.fp pb) wr w2 := K2.mono (fun i _ e => by rw [← e]; exact List.mem_of_getElem? i1)
    have q2 := q1.trans' Kc (fun i _ e => by rw [e]; exact List.mem_of_getElem? i0)
    have q3 := q2.trans' K4 (fun i _ e => by rw [← e]; exact List.mem_of_getElem? i2)
    exact q3.trans' K5 (fun i _ e => by rw [e]; exact List.mem_of_getElem? i0)
  · exact hat.imp id (fun e => by omega)
  · exact hat4.imp id (fun e => by omega)
end Go.Proofs.YtghcololkgeoeaaDoor
namespace Go.Proofs.YtghcololkgeoeaaDoor
open Go.RowKit
set_option linter.unusedVariables false
set_option linter.unusedSimpArgs false
attribute [local go_sem ↓] Go.wp_at_zero Go.wp_at_succ

structure PW (w wr : World) (cb pb : Nat) (c : Cfg) (P : Pl) : Prop where
  bel : Below w.heap.size w wr
  mp : MemP wr pb P
  fq : ∀ k, some k ∈ P.fp pb → w.heap.size ≤ k
  cfg : Blk wr cb 26 c.vals
  ncb : some cb ∉ P.fp pb
theorem PW.below {w wr w' : World} {cb pb : Nat} {c : Cfg} {P : Pl} (h : PW w wr cb pb c P) (hb : Below wr.heap.size wr w') : PW w w' cb pb c P :=
  ⟨h.bel.trans (hb.mono h.bel.size), h.mp.below hb, h.fq, h.cfg.below hb h.cfg.lt, h.ncb⟩
theorem PW.kept {S : Nat → Prop} {w wr w' : World} {cb pb : Nat} {c : Cfg} {P : Pl} (h : PW w wr cb pb c P) (hk : Kept S wr w') (h1 : ∀ k, S k → w.heap.size ≤ k ∧ some k ∉ P.fp pb ∧ k ≠ cb) : PW w w' cb pb c P :=
  ⟨kept_toBelow h.bel hk (fun i e => (h1 i e).1), h.mp.kept hk (fun k hk' e => (h1 k e).2.1 hk'), h.fq, h.cfg.kept hk (fun e => (h1 cb e).2.2 rfl), h.ncb⟩
/-- the list that is being made -/
structure InL (w wr : World) (cb pb : Nat) (P : Pl) (la : Option Addr) (lc : Nat) (l : List PA) : Prop where
  row : Row wr 39 8 la l.length lc (l.flatMap PA.cells)
  off : ∀ k, bk la = some k → w.heap.size ≤ k ∧ some k ∉ P.fp pb ∧ k ≠ cb
theorem InL.below {w wr w' : World} {cb pb : Nat} {P : Pl} {la : Option Addr} {lc : Nat} {l : List PA} (h : InL w wr cb pb P la lc l) (hb : Below wr.heap.size wr w') : InL w w' cb pb P la lc l := ⟨h.row.kept (below_kept hb (fun _ => False)) (fun _ _ e => e), h.off⟩
theorem PA.one (l : List PA) : ∀ u ∈ l.flatMap PA.cells, u.oneCell' = true := by
  intro u hu
  obtain ⟨a, _, hu⟩ := List.mem_flatMap.1 hu
  unfold PA.cells at hu
  simp only [List.mem_cons, List.not_mem_nil, or_false] at hu
  rcases hu with rfl | rfl | rfl | rfl | rfl | rfl | rfl | rfl <;> rfl
set_option maxRecDepth 100000 in
set_option maxHeartbeats 16000000 in
theorem plan_any (c : Cfg) (n : Nat) (sa : Option Addr) (sc : Nat) (S : List (List ActR)) (w : World) (hn : c.sources = n) (hn6 : n ≤ 6) (hroom : 1 ≤ c.room ∧ c.room ≤ 32) (hs : StrAt w sa S) (hl : ∀ l ∈ S, l.length ≤ 1099511627776) (hS : S.length ≤ 9000000000000) :
    Calls Tryd.prog 44 #[.agg #[.int .i64 c.sources, .int .i64 c.slack, .int .i64 c.policy, .int .i64 c.room, .int .i64 c.idle, .string c.pat], .slice sa S.length sc] w fun e w' => ∃ pb, e = .returned (.pointer (some ⟨pb, 0, none⟩)) ∧ ∃ P, MemP w' pb P ∧ (∀ k, some k ∈ P.fp pb → w.heap.size ≤ k) ∧ Below w.heap.size w w' ∧ P.L = planL c.room S n ∧ P.K = List.replicate n 0 := by
  obtain ⟨i0, hi0, hz0, hz1, hz2⟩ := info_parts Tryd.infoAct
  obtain ⟨j0, hj0, hy0, hy1, hy2⟩ := info_parts Tryd.infoActs
  obtain ⟨l0, hl0, hx0, hx1, hx2⟩ := info_parts Tryd.infoInt
  have HNn : Hid (c.sources = n) := hn
  have HSt : Hid (StrAt w sa S) := hs
  have HLl : Hid (∀ l ∈ S, l.length ≤ 1099511627776) := hl
  clear hn hs hl
  obtain ⟨w1, HW1⟩ := hex ((w.alloc (.cells c.vals.toArray 26)).alloc (.cells #[.slice none 0 0, .slice none 0 0] 99))
  obtain ⟨cb, HCb⟩ := hex w.heap.size
  obtain ⟨pb, HPb⟩ := hex (w.heap.size + 1)
  have HP1 : Hid (PW w w1 cb pb c ⟨none, 0, [], [], none, 0, []⟩) := by
    have b1 : Below w.heap.size w w1 := by rw [HW1.out]; exact ((Below.refl _ _).alloc (Nat.le_refl _) _).alloc (by simp) _
    have bx : Blk w1 pb 99 [.slice none 0 0, .slice none 0 0] := by
      rw [HW1.out, HPb.out]; have := blk_alloc (w.alloc (.cells c.vals.toArray 26)) [.slice none 0 0, .slice none 0 0] 99; simpa using this
    refine ⟨b1, ⟨bx, Row.nil _ _ _, fun i m l hm => by simp at hm, rfl, Row.nil _ _ _, rfl, ?_⟩, ?_, ?_, ?_⟩
    · intro i j k hi hj
      have key : ∀ i, ([some pb, none, none] : List (Option Nat))[i]? = some (some k) → i = 0 := by
        intro i hi
        match i with
        | 0 => rfl
        | 1 => simp at hi
        | 2 => simp at hi
        | i + 3 => simp at hi
      rw [key i hi, key j hj]
    · intro k hk
      have hk : some k ∈ ([some pb, none, none] : List (Option Nat)) := hk
      simp at hk; rw [hk, HPb.out]; omega
    · rw [HW1.out, HCb.out]; exact (blk_alloc _ _ _).alloc _
    · intro hk
      have hk : some cb ∈ ([some pb, none, none] : List (Option Nat)) := hk
      simp at hk; have := HPb.out; have := HCb.out; omega
  have hw1 : (w.alloc (.cells #[.int .i64 c.sources, .int .i64 c.slack, .int .i64 c.policy, .int .i64 c.room, .int .i64 c.idle, .string c.pat] 26)).alloc (.cells #[.slice none 0 0, .slice none 0 0] 99) = w1 := HW1.out.symm
  go_enter Tryd.func44, Tryd.ntmps44
  go_upto_region 2 with fail
  rw [← HPb.out, ← HCb.out]
  clear hw1 HW1 HPb HCb
  go_wp2
  go_loopw [6] (fun sv wr => ∃ (s : Nat) (P : Pl), s ≤ n ∧ sv = .int .i64 s ∧ PW w wr cb pb c P ∧ P.L = planL c.room S s ∧ P.K = List.replicate s 0) (fun sv _ => n - (intOf sv).toNat)
  case atStart => exact ⟨0, _, Nat.zero_le _, rfl, HP1.out, rfl, rfl⟩
  case round =>
    clear HP1
    obtain ⟨s, P, hsn, rfl, hpw, hPL, hPK⟩ := hrel
    have HPw : Hid (PW w wr cb pb c P) := hpw
    have HPL : Hid (P.L = planL c.room S s ∧ P.K = List.replicate s 0) := ⟨hPL, hPK⟩
    clear hpw hPL hPK
    have k0 := HPw.out.cfg.cell 0
    have k3 := HPw.out.cfg.cell 3
    simp only [Cfg.vals, List.getElem?_cons_zero, List.getElem?_cons_succ] at k0 k3
    rw [HNn.out] at k0
    by_cases hlt : s < n
    · have hlt' : (s : Int) < (n : Int) := by omega
      have hs0 : (0 : Int) ≤ (s : Int) := by omega
      go_upto_region 7 with fail
      obtain ⟨wo, HWo⟩ := hex wr
      rw [← HWo.out] at HPw
      rw [← HWo.out]
      clear HWo k0 k3
      obtain ⟨raw, HRaw⟩ := hex (rawOf S s)
      have hrl : raw.length ≤ 1099511627776 := by
        rw [HRaw.out]; unfold rawOf
        cases h : S[s]? with
        | none => simp
        | some l => exact HLl.out l (List.mem_of_getElem? h)
      have HPlo : Hid (∀ i, PlanOk c.room s i (planTo c.room s raw i)) := fun i => planTo_ok (by omega) s raw i
      go_wp2
      go_loopw [7, 8, 9] (fun lv rv iv wr => ∃ (i : Nat) (la : Option Addr) (lc : Nat), i ≤ raw.length ∧ lv = .slice la (planTo c.room s raw i).2.length lc ∧ rv = .int .i64 (planTo c.room s raw i).1 ∧ iv = .int .i64 i ∧ PW w wr cb pb c P ∧ InL w wr cb pb P la lc (planTo c.room s raw i).2) (fun _ _ iv _ => raw.length - (intOf iv).toNat)
      case atStart => exact ⟨0, none, 0, Nat.zero_le _, rfl, rfl, rfl, HPw.out, ⟨Row.nil _ _ _, fun k e => by simp [bk] at e⟩⟩
      case round =>
        clear HPw
        obtain ⟨i, la, lc, hi, rfl, rfl, rfl, hpw, hil⟩ := hrel
        have HPw : Hid (PW w wr cb pb c P) := hpw
        obtain ⟨rm, HRm⟩ := hex (planTo c.room s raw i).1
        obtain ⟨LL, HLL⟩ := hex (planTo c.room s raw i).2
        rw [← HLL.out] at hil
        have HIl : Hid (InL w wr cb pb P la lc LL) := hil
        clear hpw hil
        rw [← HRm.out, ← HLL.out]
        have hok := HPlo.out i
        have hrm : -(i : Int) ≤ rm ∧ rm ≤ c.room := by rw [HRm.out]; exact hok.lo
        have hLl : LL.length ≤ i := by rw [HLL.out]; exact hok.len
        clear hok
        by_cases hiL : i < raw.length
        · have hsS : s < S.length := by
            apply Nat.lt_of_not_le
            intro hc
            rw [HRaw.out] at hiL
            unfold rawOf at hiL
            rw [List.getElem?_eq_none hc] at hiL
            simp at hiL
          have hsS' : (s : Int) < (S.length : Int) := by omega
          have hraw : raw = S[s] := by rw [HRaw.out]; unfold rawOf; rw [List.getElem?_eq_getElem hsS]; rfl
          obtain ⟨stb, sto, ra, rc, hsa, hstl, hstc, hacts, hevi⟩ := HSt.out s hsS
          rw [← hraw] at hstc hacts hevi
          have hiL' : (i : Int) < (raw.length : Int) := by omega
          have hi00 : (0 : Int) ≤ (i : Int) := by omega
          obtain ⟨hao, ab, ao, hsab, hal, hac⟩ := hacts i hiL
          have hei := hevi raw[i] (List.getElem_mem hiL)
          obtain ⟨a, HAa⟩ := hex raw[i]
          rw [← HAa.out] at hao hac hei
          have HStep : Hid (planTo c.room s raw (i + 1) = planStep s i a (rm, LL)) := by
            show _ = _
            rw [HRm.out, HLL.out, HAa.out, planTo, List.getElem?_eq_getElem hiL]
          have HAL : Hid (ab < w.heap.size ∧ ∀ o, o < 8 → w.cell? ⟨ab, ao + i * 8 + o, none⟩ = a.cells[o]?) := ⟨hal, hac⟩
          have hpT : ∀ u, Calls Tryd.prog 23 #[.int .i64 a.E.ts, .int .i64 4001] u fun e w' => e = .returned (.int .i64 (pk a.E.ts 4001)) ∧ u = w' := fun u => pick_any _ _ u hei.ts (by omega) (by omega)
          have hpK : ∀ u, Calls Tryd.prog 23 #[.int .i64 a.E.kind, .int .i64 4] u fun e w' => e = .returned (.int .i64 (pk a.E.kind 4)) ∧ u = w' := fun u => pick_any _ _ u hei.kind (by omega) (by omega)
          have hpV : ∀ u, Calls Tryd.prog 23 #[.int .i64 a.E.val, .int .i64 3] u fun e w' => e = .returned (.int .i64 (pk a.E.val 3)) ∧ u = w' := fun u => pick_any _ _ u hei.val (by omega) (by omega)
          have hpD : ∀ u, Calls Tryd.prog 23 #[.int .i64 a.d, .int .i64 4] u fun e w' => e = .returned (.int .i64 (pk a.d 4)) ∧ u = w' := fun u => pick_any _ _ u hao.1 (by omega) (by omega)
          have htr := pk_range (c := a.E.ts) (n := 4001) (by omega)
          have hkr := pk_range (c := a.E.kind) (n := 4) (by omega)
          have hvr := pk_range (c := a.E.val) (n := 3) (by omega)
          obtain ⟨tt, HTt⟩ := hex (pk a.E.ts 4001 - 2000)
          obtain ⟨kk, HKk⟩ := hex (65 + pk a.E.kind 4)
          obtain ⟨vv, HVv⟩ := hex (pk a.E.val 3)
          have hwT : IntKind.i64.wrap (pk a.E.ts 4001 - 2000) = tt := by rw [HTt.out, IntKind.wrap_i64]; omega
          have hwK : IntKind.i64.wrap (65 + pk a.E.kind 4) = kk := by rw [HKk.out, IntKind.wrap_i64]; omega
          have hwR : IntKind.i64.wrap (rm - 1) = rm - 1 := by rw [IntKind.wrap_i64]; omega
          rw [← HVv.out] at hpV
          have HEv : Hid (paEv s i a = ⟨s, i, tt, kk, vv⟩) := by show _ = _; unfold paEv; rw [HTt.out, HKk.out, HVv.out]
          subst hsa
          subst hsab
          clear hac hao hal hei HAa hacts hevi hraw
          have st0 := (HPw.out.bel.cell (p := ⟨stb, sto + s, none⟩) hstl).trans hstc
          have bb : ∀ o, o < 8 → wr.cell? ⟨ab, ao + i * 8 + o, none⟩ = a.cells[o]? := fun o ho => (HPw.out.bel.cell (p := ⟨ab, ao + i * 8 + o, none⟩) HAL.out.1).trans (HAL.out.2 o ho)
          have a0 := bb 0 (by omega)
          have a1 := bb 1 (by omega)
          have a2 := bb 2 (by omega)
          have a3 := bb 3 (by omega)
          have a4 := bb 4 (by omega)
          have a5 := bb 5 (by omega)
          have a6 := bb 6 (by omega)
          have a7 := bb 7 (by omega)
          simp only [ActR.cells, List.getElem?_cons_zero, List.getElem?_cons_succ, Nat.add_zero] at a0 a1 a2 a3 a4 a5 a6 a7
          clear bb
          go_upto_region 11 with fail
          obtain ⟨v1, HV1⟩ := hex (wr.alloc (.cells ([.int .i64 a.d, .int .i64 a.s, .int .i64 a.n, .int .i64 a.E.src, .int .i64 a.E.seq, .int .i64 a.E.ts, .int .i64 a.E.kind, .int .i64 a.E.val] : List Value).toArray 39))
          obtain ⟨rb, HRb⟩ := hex wr.heap.size
          have hv1 : wr.alloc (.cells #[.int .i64 a.d, .int .i64 a.s, .int .i64 a.n, .int .i64 a.E.src, .int .i64 a.E.seq, .int .i64 a.E.ts, .int .i64 a.E.kind, .int .i64 a.E.val] 39) = v1 := HV1.out.symm
          have HA1 : Hid (Blk v1 rb 39 [.int .i64 a.d, .int .i64 a.s, .int .i64 a.n, .int .i64 a.E.src, .int .i64 a.E.seq, .int .i64 a.E.ts, .int .i64 a.E.kind, .int .i64 a.E.val] ∧ Below wr.heap.size wr v1) := by show _ ∧ _; rw [HV1.out, HRb.out]; exact ⟨blk_alloc _ _ _, (Below.refl _ _).alloc (Nat.le_refl _) _⟩
          rw [hv1, ← HRb.out]
          clear hv1 HV1 HRb a0 a1 a2 a3 a4 a5 a6 a7 st0
          have HA1d : Hid (Blk v1.drew rb 39 [.int .i64 a.d, .int .i64 a.s, .int .i64 a.n, .int .i64 a.E.src, .int .i64 a.E.seq, .int .i64 a.E.ts, .int .i64 a.E.kind, .int .i64 a.E.val]) := HA1.out.1
          have HP1 : Hid (PW w v1 cb pb c P ∧ InL w v1 cb pb P la lc LL) := ⟨HPw.out.below HA1.out.2, HIl.out.below HA1.out.2⟩
          clear HPw HIl
          go_cut [11] (fun sv wx => sv = .pointer (some ⟨v1.heap.size, 0, none⟩) ∧ wx = (v1.alloc (.cells #[.int .i64 0, .int .i64 s, .int .i64 0, .int .i64 s, .int .i64 i, .int .i64 tt, .int .i64 kk, .int .i64 vv] 39)).drew)
          case first =>
            refine upTo_region (fun u : World => u.cell? ⟨rb, 5, none⟩ = some (.int .i64 a.E.ts) ∧ u.cell? ⟨rb, 6, none⟩ = some (.int .i64 a.E.kind) ∧ u.cell? ⟨rb, 7, none⟩ = some (.int .i64 a.E.val)) 21 21 rfl (by kernel_rfl) ?_
            have hS0 : (fun u : World => u.cell? ⟨rb, 5, none⟩ = some (.int .i64 a.E.ts) ∧ u.cell? ⟨rb, 6, none⟩ = some (.int .i64 a.E.kind) ∧ u.cell? ⟨rb, 7, none⟩ = some (.int .i64 a.E.val)) v1.drew := ⟨(HA1d.out).cell 5, (HA1d.out).cell 6, (HA1d.out).cell 7⟩
            refine upTo_take2 (i := 0) (v := ?v83_0) rfl (by kernel_rfl) (by kernel_rfl) (by kernel_rfl) rfl (fun _ _ _ h => h) (by rfl) hS0 ?hy83_0 ?rest83_0
            case hy83_0 => (intro u hu; (try dsimp only at hu); go_simp; first | done | with_reducible rfl)
            (try simp only [Act.put, List.setIfInBounds_toArray, List.set_cons_zero, List.set_cons_succ, List.getElem_toArray, List.getElem_cons_succ, List.getElem_cons_zero])
            refine upTo_take2 (i := 1) (v := ?v83_1) rfl (by kernel_rfl) (by kernel_rfl) (by kernel_rfl) rfl (fun _ _ _ h => h) (by rfl) hS0 ?hy83_1 ?rest83_1
            case hy83_1 => (intro u hu; (try dsimp only at hu); go_simp; first | done | with_reducible rfl)
            (try simp only [Act.put, List.setIfInBounds_toArray, List.set_cons_zero, List.set_cons_succ, List.getElem_toArray, List.getElem_cons_succ, List.getElem_cons_zero])
            refine upTo_take2 (i := 2) (v := ?v83_2) rfl (by kernel_rfl) (by kernel_rfl) (by kernel_rfl) rfl (fun _ _ _ h => h) (by rfl) hS0 ?hy83_2 ?rest83_2
            case hy83_2 => (intro u hu; (try dsimp only at hu); go_simp; first | done | with_reducible rfl)
            (try simp only [Act.put, List.setIfInBounds_toArray, List.set_cons_zero, List.set_cons_succ, List.getElem_toArray, List.getElem_cons_succ, List.getElem_cons_zero])
            refine upTo_take2 (i := 3) (v := ?v83_3) rfl (by kernel_rfl) (by kernel_rfl) (by kernel_rfl) rfl (fun _ _ _ h => h) (by rfl) hS0 ?hy83_3 ?rest83_3
            case hy83_3 => (intro u hu; (try dsimp only at hu); go_simp; first | done | with_reducible rfl)
            (try simp only [Act.put, List.setIfInBounds_toArray, List.set_cons_zero, List.set_cons_succ, List.getElem_toArray, List.getElem_cons_succ, List.getElem_cons_zero])
            refine upTo_take2 (i := 4) (v := ?v83_4) rfl (by kernel_rfl) (by kernel_rfl) (by kernel_rfl) rfl (fun _ _ _ h => h) (by rfl) hS0 ?hy83_4 ?rest83_4
            case hy83_4 => (intro u hu; (try dsimp only at hu); go_simp; first | done | with_reducible rfl)
            (try simp only [Act.put, List.setIfInBounds_toArray, List.set_cons_zero, List.set_cons_succ, List.getElem_toArray, List.getElem_cons_succ, List.getElem_cons_zero])
            refine upTo_take2 (i := 5) (v := ?v83_5) rfl (by kernel_rfl) (by kernel_rfl) (by kernel_rfl) rfl (fun _ _ _ h => h) (by rfl) hS0 ?hy83_5 ?rest83_5
            case hy83_5 => (intro u hu; (try dsimp only at hu); go_simp; first | done | with_reducible rfl)
            (try simp only [Act.put, List.setIfInBounds_toArray, List.set_cons_zero, List.set_cons_succ, List.getElem_toArray, List.getElem_cons_succ, List.getElem_cons_zero])
            refine upTo_take2 (i := 8) (v := ?v83_8) rfl (by kernel_rfl) (by kernel_rfl) (by kernel_rfl) rfl (fun _ _ _ h => h) (by rfl) hS0 ?hy83_8 ?rest83_8
            case hy83_8 => (intro u hu; (try dsimp only at hu); go_simp; first | done | with_reducible rfl)
            (try simp only [Act.put, List.setIfInBounds_toArray, List.set_cons_zero, List.set_cons_succ, List.getElem_toArray, List.getElem_cons_succ, List.getElem_cons_zero])
            refine upTo_take2 (i := 9) (v := ?v83_9) rfl (by kernel_rfl) (by kernel_rfl) (by kernel_rfl) rfl (fun _ _ _ h => h) (by rfl) hS0 ?hy83_9 ?rest83_9
            case hy83_9 => (intro u hu; (try dsimp only at hu); go_simp; first | done | with_reducible rfl)
            (try simp only [Act.put, List.setIfInBounds_toArray, List.set_cons_zero, List.set_cons_succ, List.getElem_toArray, List.getElem_cons_succ, List.getElem_cons_zero])
            refine upTo_take2 (i := 10) (v := ?v83_10) rfl (by kernel_rfl) (by kernel_rfl) (by kernel_rfl) rfl (fun _ _ _ h => h) (by rfl) hS0 ?hy83_10 ?rest83_10
            case hy83_10 => (intro u hu; (try dsimp only at hu); go_simp; first | done | with_reducible rfl)
            (try simp only [Act.put, List.setIfInBounds_toArray, List.set_cons_zero, List.set_cons_succ, List.getElem_toArray, List.getElem_cons_succ, List.getElem_cons_zero])
            refine upTo_take2 (i := 13) (v := ?v83_13) rfl (by kernel_rfl) (by kernel_rfl) (by kernel_rfl) rfl (fun _ _ _ h => h) (by rfl) hS0 ?hy83_13 ?rest83_13
            case hy83_13 => (intro u hu; (try dsimp only at hu); go_simp; first | done | with_reducible rfl)
            (try simp only [Act.put, List.setIfInBounds_toArray, List.set_cons_zero, List.set_cons_succ, List.getElem_toArray, List.getElem_cons_succ, List.getElem_cons_zero])
            refine upTo_take2 (i := 14) (v := ?v83_14) rfl (by kernel_rfl) (by kernel_rfl) (by kernel_rfl) rfl (fun _ _ _ h => h) (by rfl) hS0 ?hy83_14 ?rest83_14
            case hy83_14 => (intro u hu; (try dsimp only at hu); go_simp; first | done | with_reducible rfl)
            (try simp only [Act.put, List.setIfInBounds_toArray, List.set_cons_zero, List.set_cons_succ, List.getElem_toArray, List.getElem_cons_succ, List.getElem_cons_zero])
            refine upTo_take2 (i := 15) (v := ?v83_15) rfl (by kernel_rfl) (by kernel_rfl) (by kernel_rfl) rfl (fun _ _ _ h => h) (by rfl) hS0 ?hy83_15 ?rest83_15
            case hy83_15 => (intro u hu; (try dsimp only at hu); go_simp; first | done | with_reducible rfl)
            (try simp only [Act.put, List.setIfInBounds_toArray, List.set_cons_zero, List.set_cons_succ, List.getElem_toArray, List.getElem_cons_succ, List.getElem_cons_zero])
            refine upTo_two (i := 6) (j := 19) (by kernel_rfl) rfl rfl (fun K hK => ?_) (fun K hK => ?_)
            · skip
              go_simp
              refine (hpT _).mono ?_
              rintro e w' ⟨rfl, rfl⟩
              refine hK.out _ _ (fun _ => ⟨(HA1d.out).cell 5, (HA1d.out).cell 6, (HA1d.out).cell 7⟩) ?_
              clear hK K
              (try simp only [Act.put, List.setIfInBounds_toArray, List.set_cons_zero, List.set_cons_succ, List.getElem_toArray, List.getElem_cons_succ, List.getElem_cons_zero])
              refine upTo_take2 (i := 7) (v := ?v84_7) rfl (by kernel_rfl) (by kernel_rfl) (by kernel_rfl) rfl (fun _ _ _ h => h) (by rfl) hS0 ?hy84_7 ?rest84_7
              case hy84_7 => (intro u hu; (try dsimp only at hu); go_simp; first | done | with_reducible rfl)
              (try simp only [Act.put, List.setIfInBounds_toArray, List.set_cons_zero, List.set_cons_succ, List.getElem_toArray, List.getElem_cons_succ, List.getElem_cons_zero])
              refine upTo_two (i := 11) (j := 19) (by kernel_rfl) rfl rfl (fun K hK => ?_) (fun K hK => ?_)
              · skip
                go_simp
                refine (hpK _).mono ?_
                rintro e w' ⟨rfl, rfl⟩
                refine hK.out _ _ (fun _ => ⟨(HA1d.out).cell 5, (HA1d.out).cell 6, (HA1d.out).cell 7⟩) ?_
                clear hK K
                (try simp only [Act.put, List.setIfInBounds_toArray, List.set_cons_zero, List.set_cons_succ, List.getElem_toArray, List.getElem_cons_succ, List.getElem_cons_zero])
                refine upTo_take2 (i := 12) (v := ?v85_12) rfl (by kernel_rfl) (by kernel_rfl) (by kernel_rfl) rfl (fun _ _ _ h => h) (by rfl) hS0 ?hy85_12 ?rest85_12
                case hy85_12 => (intro u hu; (try dsimp only at hu); go_simp; first | done | with_reducible rfl)
                (try simp only [Act.put, List.setIfInBounds_toArray, List.set_cons_zero, List.set_cons_succ, List.getElem_toArray, List.getElem_cons_succ, List.getElem_cons_zero])
                refine upTo_two (i := 16) (j := 19) (by kernel_rfl) rfl rfl (fun K hK => ?_) (fun K hK => ?_)
                · skip
                  go_simp
                  refine (hpV _).mono ?_
                  rintro e w' ⟨rfl, rfl⟩
                  refine hK.out _ _ (fun _ => ⟨(HA1d.out).cell 5, (HA1d.out).cell 6, (HA1d.out).cell 7⟩) ?_
                  clear hK K
                  (try simp only [Act.put, List.setIfInBounds_toArray, List.set_cons_zero, List.set_cons_succ, List.getElem_toArray, List.getElem_cons_succ, List.getElem_cons_zero])
                  refine upTo_take2 (i := 17) (v := ?v86_17) rfl (by kernel_rfl) (by kernel_rfl) (by kernel_rfl) rfl (fun _ _ _ h => h) (by rfl) hS0 ?hy86_17 ?rest86_17
                  case hy86_17 => (intro u hu; (try dsimp only at hu); go_simp; first | done | with_reducible rfl)
                  (try simp only [Act.put, List.setIfInBounds_toArray, List.set_cons_zero, List.set_cons_succ, List.getElem_toArray, List.getElem_cons_succ, List.getElem_cons_zero])
                  refine upTo_take2 (i := 18) (v := ?v86_18) rfl (by kernel_rfl) (by kernel_rfl) (by kernel_rfl) rfl (fun _ _ _ h => h) (by rfl) hS0 ?hy86_18 ?rest86_18
                  case hy86_18 => (intro u hu; (try dsimp only at hu); go_simp; first | done | with_reducible rfl)
                  (try simp only [Act.put, List.setIfInBounds_toArray, List.set_cons_zero, List.set_cons_succ, List.getElem_toArray, List.getElem_cons_succ, List.getElem_cons_zero])
                  refine upTo_one (i := 19) (by kernel_rfl) rfl (fun K hK => ?_)
                  go_simp
                  refine hK.out _ _ (fun _ => ⟨((HA1d.out.alloc _)).cell 5, ((HA1d.out.alloc _)).cell 6, ((HA1d.out.alloc _)).cell 7⟩) ?_
                  clear hK K hS0
                  (try simp only [Act.put, List.setIfInBounds_toArray, List.set_cons_zero, List.set_cons_succ, List.getElem_toArray, List.getElem_cons_succ, List.getElem_cons_zero])
                  have hS0 : (fun u : World => u.cell? ⟨rb, 5, none⟩ = some (.int .i64 a.E.ts) ∧ u.cell? ⟨rb, 6, none⟩ = some (.int .i64 a.E.kind) ∧ u.cell? ⟨rb, 7, none⟩ = some (.int .i64 a.E.val)) (v1.drew.alloc (.cells #[.int .i64 0, .int .i64 0, .int .i64 0, .int .i64 0, .int .i64 0, .int .i64 0, .int .i64 0, .int .i64 0] 39)) := ⟨((HA1d.out.alloc _)).cell 5, ((HA1d.out.alloc _)).cell 6, ((HA1d.out.alloc _)).cell 7⟩
                  refine upTo_one (i := 20) (by kernel_rfl) rfl (fun K hK => ?_)
                  go_simp
                  refine hK.out _ _ (fun _ => ?_) ?_
                  case refine_1 => exact ⟨((HA1d.out.alloc _)).cell 5, ((HA1d.out.alloc _)).cell 6, ((HA1d.out.alloc _)).cell 7⟩
                  clear hK K
                  (try simp only [Act.put, List.setIfInBounds_toArray, List.set_cons_zero, List.set_cons_succ, List.getElem_toArray, List.getElem_cons_succ, List.getElem_cons_zero])
                  refine upTo_done (by kernel_rfl) ?_
                  go_wp2
                  go_meet
                  case rel => exact ⟨rfl, rfl⟩
                · skip
                  go_simp
                  refine hK.out _ _ (fun _ => ⟨((HA1d.out.alloc _)).cell 5, ((HA1d.out.alloc _)).cell 6, ((HA1d.out.alloc _)).cell 7⟩) ?_
                  clear hK K hS0
                  (try simp only [Act.put, List.setIfInBounds_toArray, List.set_cons_zero, List.set_cons_succ, List.getElem_toArray, List.getElem_cons_succ, List.getElem_cons_zero])
                  have hS0 : (fun u : World => u.cell? ⟨rb, 5, none⟩ = some (.int .i64 a.E.ts) ∧ u.cell? ⟨rb, 6, none⟩ = some (.int .i64 a.E.kind) ∧ u.cell? ⟨rb, 7, none⟩ = some (.int .i64 a.E.val)) (v1.drew.alloc (.cells #[.int .i64 0, .int .i64 0, .int .i64 0, .int .i64 0, .int .i64 0, .int .i64 0, .int .i64 0, .int .i64 0] 39)) := ⟨((HA1d.out.alloc _)).cell 5, ((HA1d.out.alloc _)).cell 6, ((HA1d.out.alloc _)).cell 7⟩
                  refine upTo_one (i := 16) (by kernel_rfl) rfl (fun K hK => ?_)
                  go_simp
                  refine (hpV _).mono ?_
                  rintro e w' ⟨rfl, rfl⟩
                  refine hK.out _ _ (fun _ => ⟨((HA1d.out.alloc _)).cell 5, ((HA1d.out.alloc _)).cell 6, ((HA1d.out.alloc _)).cell 7⟩) ?_
                  clear hK K
                  (try simp only [Act.put, List.setIfInBounds_toArray, List.set_cons_zero, List.set_cons_succ, List.getElem_toArray, List.getElem_cons_succ, List.getElem_cons_zero])
                  refine upTo_take2 (i := 17) (v := ?v87_17) rfl (by kernel_rfl) (by kernel_rfl) (by kernel_rfl) rfl (fun _ _ _ h => h) (by rfl) hS0 ?hy87_17 ?rest87_17
                  case hy87_17 => (intro u hu; (try dsimp only at hu); go_simp; first | done | with_reducible rfl)
                  (try simp only [Act.put, List.setIfInBounds_toArray, List.set_cons_zero, List.set_cons_succ, List.getElem_toArray, List.getElem_cons_succ, List.getElem_cons_zero])
                  refine upTo_take2 (i := 18) (v := ?v87_18) rfl (by kernel_rfl) (by kernel_rfl) (by kernel_rfl) rfl (fun _ _ _ h => h) (by rfl) hS0 ?hy87_18 ?rest87_18
                  case hy87_18 => (intro u hu; (try dsimp only at hu); go_simp; first | done | with_reducible rfl)
                  (try simp only [Act.put, List.setIfInBounds_toArray, List.set_cons_zero, List.set_cons_succ, List.getElem_toArray, List.getElem_cons_succ, List.getElem_cons_zero])
                  refine upTo_one (i := 20) (by kernel_rfl) rfl (fun K hK => ?_)
                  go_simp
                  refine hK.out _ _ (fun _ => ?_) ?_
                  case refine_1 => exact ⟨((HA1d.out.alloc _)).cell 5, ((HA1d.out.alloc _)).cell 6, ((HA1d.out.alloc _)).cell 7⟩
                  clear hK K
                  (try simp only [Act.put, List.setIfInBounds_toArray, List.set_cons_zero, List.set_cons_succ, List.getElem_toArray, List.getElem_cons_succ, List.getElem_cons_zero])
                  refine upTo_done (by kernel_rfl) ?_
                  go_wp2
                  go_meet
                  case rel => exact ⟨rfl, rfl⟩
              · skip
                go_simp
                refine hK.out _ _ (fun _ => ⟨((HA1d.out.alloc _)).cell 5, ((HA1d.out.alloc _)).cell 6, ((HA1d.out.alloc _)).cell 7⟩) ?_
                clear hK K hS0
                (try simp only [Act.put, List.setIfInBounds_toArray, List.set_cons_zero, List.set_cons_succ, List.getElem_toArray, List.getElem_cons_succ, List.getElem_cons_zero])
                have hS0 : (fun u : World => u.cell? ⟨rb, 5, none⟩ = some (.int .i64 a.E.ts) ∧ u.cell? ⟨rb, 6, none⟩ = some (.int .i64 a.E.kind) ∧ u.cell? ⟨rb, 7, none⟩ = some (.int .i64 a.E.val)) (v1.drew.alloc (.cells #[.int .i64 0, .int .i64 0, .int .i64 0, .int .i64 0, .int .i64 0, .int .i64 0, .int .i64 0, .int .i64 0] 39)) := ⟨((HA1d.out.alloc _)).cell 5, ((HA1d.out.alloc _)).cell 6, ((HA1d.out.alloc _)).cell 7⟩
                refine upTo_one (i := 11) (by kernel_rfl) rfl (fun K hK => ?_)
                go_simp
                refine (hpK _).mono ?_
                rintro e w' ⟨rfl, rfl⟩
                refine hK.out _ _ (fun _ => ⟨((HA1d.out.alloc _)).cell 5, ((HA1d.out.alloc _)).cell 6, ((HA1d.out.alloc _)).cell 7⟩) ?_
                clear hK K
                (try simp only [Act.put, List.setIfInBounds_toArray, List.set_cons_zero, List.set_cons_succ, List.getElem_toArray, List.getElem_cons_succ, List.getElem_cons_zero])
                refine upTo_take2 (i := 12) (v := ?v88_12) rfl (by kernel_rfl) (by kernel_rfl) (by kernel_rfl) rfl (fun _ _ _ h => h) (by rfl) hS0 ?hy88_12 ?rest88_12
                case hy88_12 => (intro u hu; (try dsimp only at hu); go_simp; first | done | with_reducible rfl)
                (try simp only [Act.put, List.setIfInBounds_toArray, List.set_cons_zero, List.set_cons_succ, List.getElem_toArray, List.getElem_cons_succ, List.getElem_cons_zero])
                refine upTo_one (i := 16) (by kernel_rfl) rfl (fun K hK => ?_)
                go_simp
                refine (hpV _).mono ?_
                rintro e w' ⟨rfl, rfl⟩
                refine hK.out _ _ (fun _ => ⟨((HA1d.out.alloc _)).cell 5, ((HA1d.out.alloc _)).cell 6, ((HA1d.out.alloc _)).cell 7⟩) ?_
                clear hK K
                (try simp only [Act.put, List.setIfInBounds_toArray, List.set_cons_zero, List.set_cons_succ, List.getElem_toArray, List.getElem_cons_succ, List.getElem_cons_zero])
                refine upTo_take2 (i := 17) (v := ?v89_17) rfl (by kernel_rfl) (by kernel_rfl) (by kernel_rfl) rfl (fun _ _ _ h => h) (by rfl) hS0 ?hy89_17 ?rest89_17
                case hy89_17 => (intro u hu; (try dsimp only at hu); go_simp; first | done | with_reducible rfl)
                (try simp only [Act.put, List.setIfInBounds_toArray, List.set_cons_zero, List.set_cons_succ, List.getElem_toArray, List.getElem_cons_succ, List.getElem_cons_zero])
                refine upTo_take2 (i := 18) (v := ?v89_18) rfl (by kernel_rfl) (by kernel_rfl) (by kernel_rfl) rfl (fun _ _ _ h => h) (by rfl) hS0 ?hy89_18 ?rest89_18
                case hy89_18 => (intro u hu; (try dsimp only at hu); go_simp; first | done | with_reducible rfl)
                (try simp only [Act.put, List.setIfInBounds_toArray, List.set_cons_zero, List.set_cons_succ, List.getElem_toArray, List.getElem_cons_succ, List.getElem_cons_zero])
                refine upTo_one (i := 20) (by kernel_rfl) rfl (fun K hK => ?_)
                go_simp
                refine hK.out _ _ (fun _ => ?_) ?_
                case refine_1 => exact ⟨((HA1d.out.alloc _)).cell 5, ((HA1d.out.alloc _)).cell 6, ((HA1d.out.alloc _)).cell 7⟩
                clear hK K
                (try simp only [Act.put, List.setIfInBounds_toArray, List.set_cons_zero, List.set_cons_succ, List.getElem_toArray, List.getElem_cons_succ, List.getElem_cons_zero])
                refine upTo_done (by kernel_rfl) ?_
                go_wp2
                go_meet
                case rel => exact ⟨rfl, rfl⟩
            · skip
              go_simp
              refine hK.out _ _ (fun _ => ⟨((HA1d.out.alloc _)).cell 5, ((HA1d.out.alloc _)).cell 6, ((HA1d.out.alloc _)).cell 7⟩) ?_
              clear hK K hS0
              (try simp only [Act.put, List.setIfInBounds_toArray, List.set_cons_zero, List.set_cons_succ, List.getElem_toArray, List.getElem_cons_succ, List.getElem_cons_zero])
              have hS0 : (fun u : World => u.cell? ⟨rb, 5, none⟩ = some (.int .i64 a.E.ts) ∧ u.cell? ⟨rb, 6, none⟩ = some (.int .i64 a.E.kind) ∧ u.cell? ⟨rb, 7, none⟩ = some (.int .i64 a.E.val)) (v1.drew.alloc (.cells #[.int .i64 0, .int .i64 0, .int .i64 0, .int .i64 0, .int .i64 0, .int .i64 0, .int .i64 0, .int .i64 0] 39)) := ⟨((HA1d.out.alloc _)).cell 5, ((HA1d.out.alloc _)).cell 6, ((HA1d.out.alloc _)).cell 7⟩
              refine upTo_one (i := 6) (by kernel_rfl) rfl (fun K hK => ?_)
              go_simp
              refine (hpT _).mono ?_
              rintro e w' ⟨rfl, rfl⟩
              refine hK.out _ _ (fun _ => ⟨((HA1d.out.alloc _)).cell 5, ((HA1d.out.alloc _)).cell 6, ((HA1d.out.alloc _)).cell 7⟩) ?_
              clear hK K
              (try simp only [Act.put, List.setIfInBounds_toArray, List.set_cons_zero, List.set_cons_succ, List.getElem_toArray, List.getElem_cons_succ, List.getElem_cons_zero])
              refine upTo_take2 (i := 7) (v := ?v90_7) rfl (by kernel_rfl) (by kernel_rfl) (by kernel_rfl) rfl (fun _ _ _ h => h) (by rfl) hS0 ?hy90_7 ?rest90_7
              case hy90_7 => (intro u hu; (try dsimp only at hu); go_simp; first | done | with_reducible rfl)
              (try simp only [Act.put, List.setIfInBounds_toArray, List.set_cons_zero, List.set_cons_succ, List.getElem_toArray, List.getElem_cons_succ, List.getElem_cons_zero])
              refine upTo_one (i := 11) (by kernel_rfl) rfl (fun K hK => ?_)
              go_simp
              refine (hpK _).mono ?_
              rintro e w' ⟨rfl, rfl⟩
              refine hK.out _ _ (fun _ => ⟨((HA1d.out.alloc _)).cell 5, ((HA1d.out.alloc _)).cell 6, ((HA1d.out.alloc _)).cell 7⟩) ?_
              clear hK K
              (try simp only [Act.put, List.setIfInBounds_toArray, List.set_cons_zero, List.set_cons_succ, List.getElem_toArray, List.getElem_cons_succ, List.getElem_cons_zero])
              refine upTo_take2 (i := 12) (v := ?v91_12) rfl (by kernel_rfl) (by kernel_rfl) (by kernel_rfl) rfl (fun _ _ _ h => h) (by rfl) hS0 ?hy91_12 ?rest91_12
              case hy91_12 => (intro u hu; (try dsimp only at hu); go_simp; first | done | with_reducible rfl)
              (try simp only [Act.put, List.setIfInBounds_toArray, List.set_cons_zero, List.set_cons_succ, List.getElem_toArray, List.getElem_cons_succ, List.getElem_cons_zero])
              refine upTo_one (i := 16) (by kernel_rfl) rfl (fun K hK => ?_)
              go_simp
              refine (hpV _).mono ?_
              rintro e w' ⟨rfl, rfl⟩
              refine hK.out _ _ (fun _ => ⟨((HA1d.out.alloc _)).cell 5, ((HA1d.out.alloc _)).cell 6, ((HA1d.out.alloc _)).cell 7⟩) ?_
              clear hK K
              (try simp only [Act.put, List.setIfInBounds_toArray, List.set_cons_zero, List.set_cons_succ, List.getElem_toArray, List.getElem_cons_succ, List.getElem_cons_zero])
              refine upTo_take2 (i := 17) (v := ?v92_17) rfl (by kernel_rfl) (by kernel_rfl) (by kernel_rfl) rfl (fun _ _ _ h => h) (by rfl) hS0 ?hy92_17 ?rest92_17
              case hy92_17 => (intro u hu; (try dsimp only at hu); go_simp; first | done | with_reducible rfl)
              (try simp only [Act.put, List.setIfInBounds_toArray, List.set_cons_zero, List.set_cons_succ, List.getElem_toArray, List.getElem_cons_succ, List.getElem_cons_zero])
              refine upTo_take2 (i := 18) (v := ?v92_18) rfl (by kernel_rfl) (by kernel_rfl) (by kernel_rfl) rfl (fun _ _ _ h => h) (by rfl) hS0 ?hy92_18 ?rest92_18
              case hy92_18 => (intro u hu; (try dsimp only at hu); go_simp; first | done | with_reducible rfl)
              (try simp only [Act.put, List.setIfInBounds_toArray, List.set_cons_zero, List.set_cons_succ, List.getElem_toArray, List.getElem_cons_succ, List.getElem_cons_zero])
              refine upTo_one (i := 20) (by kernel_rfl) rfl (fun K hK => ?_)
              go_simp
              refine hK.out _ _ (fun _ => ?_) ?_
              case refine_1 => exact ⟨((HA1d.out.alloc _)).cell 5, ((HA1d.out.alloc _)).cell 6, ((HA1d.out.alloc _)).cell 7⟩
              clear hK K
              (try simp only [Act.put, List.setIfInBounds_toArray, List.set_cons_zero, List.set_cons_succ, List.getElem_toArray, List.getElem_cons_succ, List.getElem_cons_zero])
              refine upTo_done (by kernel_rfl) ?_
              go_wp2
              go_meet
              case rel => exact ⟨rfl, rfl⟩
          case rest =>
            obtain ⟨rfl, hwc⟩ := hcut
            obtain ⟨w2, HW2⟩ := hex wc
            obtain ⟨nb, HNb⟩ := hex v1.heap.size
            have HB2 : Hid (Below v1.heap.size v1 w2 ∧ Blk w2 nb 39 [.int .i64 0, .int .i64 s, .int .i64 0, .int .i64 s, .int .i64 i, .int .i64 tt, .int .i64 kk, .int .i64 vv] ∧ Blk w2 rb 39 [.int .i64 a.d, .int .i64 a.s, .int .i64 a.n, .int .i64 a.E.src, .int .i64 a.E.seq, .int .i64 a.E.ts, .int .i64 a.E.kind, .int .i64 a.E.val]) := by
              show _ ∧ _ ∧ _
              rw [HW2.out, hwc, HNb.out]
              exact ⟨((Below.refl _ v1).alloc (Nat.le_refl _) _).drew, (blk_alloc v1 [.int .i64 0, .int .i64 s, .int .i64 0, .int .i64 s, .int .i64 i, .int .i64 tt, .int .i64 kk, .int .i64 vv] 39).drew, (HA1.out.1.alloc _).drew⟩
            have HNo : Hid (w.heap.size ≤ nb ∧ some nb ∉ P.fp pb ∧ nb ≠ cb ∧ bk la ≠ some nb) := by
              have h1 := HP1.out.1.bel.size
              have h2 := HNb.out
              refine ⟨by omega, fun e => ?_, fun e => ?_, fun e => ?_⟩
              · have := HP1.out.1.mp.fp_lt nb e; omega
              · have := HP1.out.1.cfg.lt; omega
              · have := HP1.out.2.row.lt e; omega
            have HP2 : Hid (PW w w2 cb pb c P ∧ InL w w2 cb pb P la lc LL) := ⟨HP1.out.1.below HB2.out.1, HP1.out.2.below HB2.out.1⟩
            rw [← HW2.out, ← HNb.out]
            clear HW2 hwc HNb HP1 HA1 HA1d hpT hpK hpV hwT hwK HTt HKk HVv
            have r0 := HB2.out.2.2.cell 0
            simp only [List.getElem?_cons_zero, List.getElem?_cons_succ] at r0
            have n0 := HB2.out.2.1.cell 0
            have n0f := HB2.out.2.1.frozen 0
            simp only [List.getElem?_cons_zero, List.getElem?_cons_succ] at n0
            have hSt : ∀ d : Int, PW w (w2.setCell ⟨nb, 0, none⟩ (.int .i64 d)) cb pb c P ∧ InL w (w2.setCell ⟨nb, 0, none⟩ (.int .i64 d)) cb pb P la lc LL ∧ Blk (w2.setCell ⟨nb, 0, none⟩ (.int .i64 d)) nb 39 [.int .i64 d, .int .i64 s, .int .i64 0, .int .i64 s, .int .i64 i, .int .i64 tt, .int .i64 kk, .int .i64 vv] := fun d => by
              have K : Kept (fun k => k = nb) w2 (w2.setCell ⟨nb, 0, none⟩ (.int .i64 d)) := (Kept.refl (fun k => k = nb) w2).setCell (fun _ => rfl) _
              refine ⟨HP2.out.1.kept K (fun k e => by rw [e]; exact ⟨HNo.out.1, HNo.out.2.1, HNo.out.2.2.1⟩), ⟨HP2.out.2.row.kept K (fun k e f => HNo.out.2.2.2 (by rw [← f]; exact e)), HP2.out.2.off⟩, ?_⟩
              exact HB2.out.2.1.set 0 (.int .i64 d)
            have HSt2 : Hid (∀ d : Int, PW w (w2.setCell ⟨nb, 0, none⟩ (.int .i64 d)) cb pb c P ∧ InL w (w2.setCell ⟨nb, 0, none⟩ (.int .i64 d)) cb pb P la lc LL ∧ Blk (w2.setCell ⟨nb, 0, none⟩ (.int .i64 d)) nb 39 [.int .i64 d, .int .i64 s, .int .i64 0, .int .i64 s, .int .i64 i, .int .i64 tt, .int .i64 kk, .int .i64 vv]) := hSt
            clear hSt
            by_cases hd : 0 < pk a.d 4
            · have hrn : 0 ≤ rm - 1 ∨ ¬ 0 ≤ rm - 1 := by omega
              rcases hrn with hr | hr
              · have HPt : Hid (planTo c.room s raw (i + 1) = (rm - 1, LL ++ [⟨paEv s i a, true⟩])) := by
                  show _ = _
                  rw [HStep.out]
                  unfold planStep
                  rw [if_pos hd]
                  simp only
                  rw [if_pos hr]
                go_upto_region 16 with (go_at_call 23; refine (hpD _).mono ?_; rintro e w' ⟨rfl, rfl⟩)
                obtain ⟨w3, HW3⟩ := hex (w2.setCell ⟨nb, 0, none⟩ (.int .i64 2))
                have HP3 : Hid (PW w w3 cb pb c P ∧ InL w w3 cb pb P la lc LL ∧ Blk w3 nb 39 [.int .i64 2, .int .i64 s, .int .i64 0, .int .i64 s, .int .i64 i, .int .i64 tt, .int .i64 kk, .int .i64 vv]) := by show _ ∧ _ ∧ _; rw [HW3.out]; exact HSt2.out 2
                rw [← HW3.out]
                clear HW3 HSt2 HP2 HB2 n0 n0f r0 hpD
                have n0 := HP3.out.2.2.cell 0
                have n1 := HP3.out.2.2.cell 1
                have n2 := HP3.out.2.2.cell 2
                have n3 := HP3.out.2.2.cell 3
                have n4 := HP3.out.2.2.cell 4
                have n5 := HP3.out.2.2.cell 5
                have n6 := HP3.out.2.2.cell 6
                have n7 := HP3.out.2.2.cell 7
                simp only [List.getElem?_cons_zero, List.getElem?_cons_succ] at n0 n1 n2 n3 n4 n5 n6 n7
                have HFr : Hid (Row w3 39 8 la LL.length lc (LL.flatMap PA.cells)) := HP3.out.2.1.row
                have hLs : LL.length ≤ 1099511627776 := by omega
                go_wp2_with (at_builtin; refine wpList_append_lies _ rfl _ _ _ rfl 0 39 i0 _ 8 64 Tryd.underlying24 hi0 hz0 hz1 hz2 rfl (by omega) (.slice la LL.length lc) LL.length (LL.flatMap PA.cells) rfl (ownsRow_of_heap HFr.out (fun j hj => Below.heap_alloc _ _ _ hj)) ⟨w3.heap.size, 0, none⟩ 1 1 [.int .i64 2, .int .i64 s, .int .i64 0, .int .i64 s, .int .i64 i, .int .i64 tt, .int .i64 kk, .int .i64 vv] rfl rfl (news_new _ _ (by simp) [.int .i64 2, .int .i64 s, .int .i64 0, .int .i64 s, .int .i64 i, .int .i64 tt, .int .i64 kk, .int .i64 vv] 39) (by simp [Value.oneCell']) (by omega) (by unfold maxLen; omega) (by omega) (by simp) (w3.heap.size + 1) (by simp) ?_; intro g2 cap w4 hown1 hgrow hat hlt1; rw [bk_own] at hgrow hat)
                have HP4 : Hid (PW w w4 cb pb c P ∧ InL w w4 cb pb P (some ⟨g2, 0, none⟩) cap (planTo c.room s raw (i + 1)).2) := by
                  have hba : Below w3.heap.size w3 (w3.alloc (.cells #[.int .i64 2, .int .i64 s, .int .i64 0, .int .i64 s, .int .i64 i, .int .i64 tt, .int .i64 kk, .int .i64 vv] 39)) := (Below.refl _ _).alloc (Nat.le_refl _) _
                  have K : Kept (fun k => bk la = some k) w3 w4 := ((Kept.refl _ w3).below hba).grown hgrow (fun k _ e => e)
                  refine ⟨HP3.out.1.kept K (fun k e => HP3.out.2.1.off k e), ?_, ?_⟩
                  · rw [HPt.out]
                    simp only
                    rw [List.flatMap_append, List.length_append]
                    have e : [(⟨paEv s i a, true⟩ : PA)].flatMap PA.cells = [.int .i64 2, .int .i64 s, .int .i64 0, .int .i64 s, .int .i64 i, .int .i64 tt, .int .i64 kk, .int .i64 vv] := by rw [HEv.out]; rfl
                    rw [e]; exact hown1
                  · intro k e
                    have e : k = g2 := by simp [bk] at e; omega
                    subst e
                    rcases hat with e | e
                    · exact HP3.out.2.1.off k e
                    · have h1 := HP3.out.1.bel.size
                      refine ⟨by omega, fun f => ?_, fun f => ?_⟩
                      · have := HP3.out.1.mp.fp_lt k f; omega
                      · have := HP3.out.1.cfg.lt; omega
                have HLn : Hid ((planTo c.room s raw (i + 1)).2.length = LL.length + 1) := by show _ = _; rw [HPt.out]; simp
                have HRn : Hid ((planTo c.room s raw (i + 1)).1 = rm - 1) := by show _ = _; rw [HPt.out]
                clear hown1 hgrow hat hlt1 HFr HP3
                go_roundw
                case rel => first | exact ⟨i + 1, some ⟨g2, 0, none⟩, cap, by omega, by rw [HLn.out], by rw [HRn.out], by go_num, HP4.out.1, HP4.out.2⟩ | ((repeat apply Exists.intro); exact ⟨⟨i + 1, some ⟨g2, 0, none⟩, cap, by omega, by rw [HLn.out], by rw [HRn.out], by go_num, HP4.out.1, HP4.out.2⟩, rfl⟩)
                case measure => simp [intOf]; omega
              · have HPt : Hid (planTo c.room s raw (i + 1) = (rm - 1, LL)) := by
                  show _ = _
                  rw [HStep.out]
                  unfold planStep
                  rw [if_pos hd]
                  simp only
                  rw [if_neg hr]
                have hrd : decide (0 ≤ rm - 1) = false := by simpa using hr
                go_upto_region 16 with (go_at_call 23; refine (hpD _).mono ?_; rintro e w' ⟨rfl, rfl⟩)
                obtain ⟨w3, HW3⟩ := hex (w2.setCell ⟨nb, 0, none⟩ (.int .i64 2))
                have HP3 : Hid (PW w w3 cb pb c P ∧ InL w w3 cb pb P la lc LL ∧ Blk w3 nb 39 [.int .i64 2, .int .i64 s, .int .i64 0, .int .i64 s, .int .i64 i, .int .i64 tt, .int .i64 kk, .int .i64 vv]) := by show _ ∧ _ ∧ _; rw [HW3.out]; exact HSt2.out 2
                rw [← HW3.out]
                clear HW3 HSt2 HP2 HB2 n0 n0f r0 hpD
                have n0 := HP3.out.2.2.cell 0
                have n1 := HP3.out.2.2.cell 1
                have n2 := HP3.out.2.2.cell 2
                have n3 := HP3.out.2.2.cell 3
                have n4 := HP3.out.2.2.cell 4
                have n5 := HP3.out.2.2.cell 5
                have n6 := HP3.out.2.2.cell 6
                have n7 := HP3.out.2.2.cell 7
                simp only [List.getElem?_cons_zero, List.getElem?_cons_succ] at n0 n1 n2 n3 n4 n5 n6 n7
                have HP4 : Hid (PW w w3 cb pb c P ∧ InL w w3 cb pb P la lc (planTo c.room s raw (i + 1)).2) := by
                  refine ⟨HP3.out.1, ?_⟩
                  rw [HPt.out]; exact HP3.out.2.1
                have HLn : Hid ((planTo c.room s raw (i + 1)).2.length = LL.length) := by show _ = _; rw [HPt.out]
                have HRn : Hid ((planTo c.room s raw (i + 1)).1 = rm - 1) := by show _ = _; rw [HPt.out]
                clear HP3
                go_wp2
                go_roundw
                case rel => first | exact ⟨i + 1, la, lc, by omega, by rw [HLn.out], by rw [HRn.out], by go_num, HP4.out.1, HP4.out.2⟩ | ((repeat apply Exists.intro); exact ⟨⟨i + 1, la, lc, by omega, by rw [HLn.out], by rw [HRn.out], by go_num, HP4.out.1, HP4.out.2⟩, rfl⟩)
                case measure => simp [intOf]; omega
            · have hdd : decide (0 < pk a.d 4) = false := by simpa using hd
              have hrn : 0 ≤ rm ∨ ¬ 0 ≤ rm := by omega
              rcases hrn with hr | hr
              · have HPt : Hid (planTo c.room s raw (i + 1) = (rm, LL ++ [⟨paEv s i a, false⟩])) := by
                  show _ = _
                  rw [HStep.out]
                  unfold planStep
                  rw [if_neg hd]
                  simp only
                  rw [if_pos hr]
                go_upto_region 16 with (go_at_call 23; refine (hpD _).mono ?_; rintro e w' ⟨rfl, rfl⟩)
                obtain ⟨w3, HW3⟩ := hex (w2.setCell ⟨nb, 0, none⟩ (.int .i64 4))
                have HP3 : Hid (PW w w3 cb pb c P ∧ InL w w3 cb pb P la lc LL ∧ Blk w3 nb 39 [.int .i64 4, .int .i64 s, .int .i64 0, .int .i64 s, .int .i64 i, .int .i64 tt, .int .i64 kk, .int .i64 vv]) := by show _ ∧ _ ∧ _; rw [HW3.out]; exact HSt2.out 4
                rw [← HW3.out]
                clear HW3 HSt2 HP2 HB2 n0 n0f r0 hpD
                have n0 := HP3.out.2.2.cell 0
                have n1 := HP3.out.2.2.cell 1
                have n2 := HP3.out.2.2.cell 2
                have n3 := HP3.out.2.2.cell 3
                have n4 := HP3.out.2.2.cell 4
                have n5 := HP3.out.2.2.cell 5
                have n6 := HP3.out.2.2.cell 6
                have n7 := HP3.out.2.2.cell 7
                simp only [List.getElem?_cons_zero, List.getElem?_cons_succ] at n0 n1 n2 n3 n4 n5 n6 n7
                have HFr : Hid (Row w3 39 8 la LL.length lc (LL.flatMap PA.cells)) := HP3.out.2.1.row
                have hLs : LL.length ≤ 1099511627776 := by omega
                go_wp2_with (at_builtin; refine wpList_append_lies _ rfl _ _ _ rfl 0 39 i0 _ 8 64 Tryd.underlying24 hi0 hz0 hz1 hz2 rfl (by omega) (.slice la LL.length lc) LL.length (LL.flatMap PA.cells) rfl (ownsRow_of_heap HFr.out (fun j hj => Below.heap_alloc _ _ _ hj)) ⟨w3.heap.size, 0, none⟩ 1 1 [.int .i64 4, .int .i64 s, .int .i64 0, .int .i64 s, .int .i64 i, .int .i64 tt, .int .i64 kk, .int .i64 vv] rfl rfl (news_new _ _ (by simp) [.int .i64 4, .int .i64 s, .int .i64 0, .int .i64 s, .int .i64 i, .int .i64 tt, .int .i64 kk, .int .i64 vv] 39) (by simp [Value.oneCell']) (by omega) (by unfold maxLen; omega) (by omega) (by simp) (w3.heap.size + 1) (by simp) ?_; intro g2 cap w4 hown1 hgrow hat hlt1; rw [bk_own] at hgrow hat)
                have HP4 : Hid (PW w w4 cb pb c P ∧ InL w w4 cb pb P (some ⟨g2, 0, none⟩) cap (planTo c.room s raw (i + 1)).2) := by
                  have hba : Below w3.heap.size w3 (w3.alloc (.cells #[.int .i64 4, .int .i64 s, .int .i64 0, .int .i64 s, .int .i64 i, .int .i64 tt, .int .i64 kk, .int .i64 vv] 39)) := (Below.refl _ _).alloc (Nat.le_refl _) _
                  have K : Kept (fun k => bk la = some k) w3 w4 := ((Kept.refl _ w3).below hba).grown hgrow (fun k _ e => e)
                  refine ⟨HP3.out.1.kept K (fun k e => HP3.out.2.1.off k e), ?_, ?_⟩
                  · rw [HPt.out]
                    simp only
                    rw [List.flatMap_append, List.length_append]
                    have e : [(⟨paEv s i a, false⟩ : PA)].flatMap PA.cells = [.int .i64 4, .int .i64 s, .int .i64 0, .int .i64 s, .int .i64 i, .int .i64 tt, .int .i64 kk, .int .i64 vv] := by rw [HEv.out]; rfl
                    rw [e]; exact hown1
                  · intro k e
                    have e : k = g2 := by simp [bk] at e; omega
                    subst e
                    rcases hat with e | e
                    · exact HP3.out.2.1.off k e
                    · have h1 := HP3.out.1.bel.size
                      refine ⟨by omega, fun f => ?_, fun f => ?_⟩
                      · have := HP3.out.1.mp.fp_lt k f; omega
                      · have := HP3.out.1.cfg.lt; omega
                have HLn : Hid ((planTo c.room s raw (i + 1)).2.length = LL.length + 1) := by show _ = _; rw [HPt.out]; simp
                have HRn : Hid ((planTo c.room s raw (i + 1)).1 = rm) := by show _ = _; rw [HPt.out]
                clear hown1 hgrow hat hlt1 HFr HP3
                go_roundw
                case rel => first | exact ⟨i + 1, some ⟨g2, 0, none⟩, cap, by omega, by rw [HLn.out], by rw [HRn.out], by go_num, HP4.out.1, HP4.out.2⟩ | ((repeat apply Exists.intro); exact ⟨⟨i + 1, some ⟨g2, 0, none⟩, cap, by omega, by rw [HLn.out], by rw [HRn.out], by go_num, HP4.out.1, HP4.out.2⟩, rfl⟩)
                case measure => simp [intOf]; omega
              · have HPt : Hid (planTo c.room s raw (i + 1) = (rm, LL)) := by
                  show _ = _
                  rw [HStep.out]
                  unfold planStep
                  rw [if_neg hd]
                  simp only
                  rw [if_neg hr]
                have hrd : decide (0 ≤ rm) = false := by simpa using hr
                go_upto_region 16 with (go_at_call 23; refine (hpD _).mono ?_; rintro e w' ⟨rfl, rfl⟩)
                obtain ⟨w3, HW3⟩ := hex (w2.setCell ⟨nb, 0, none⟩ (.int .i64 4))
                have HP3 : Hid (PW w w3 cb pb c P ∧ InL w w3 cb pb P la lc LL ∧ Blk w3 nb 39 [.int .i64 4, .int .i64 s, .int .i64 0, .int .i64 s, .int .i64 i, .int .i64 tt, .int .i64 kk, .int .i64 vv]) := by show _ ∧ _ ∧ _; rw [HW3.out]; exact HSt2.out 4
                rw [← HW3.out]
                clear HW3 HSt2 HP2 HB2 n0 n0f r0 hpD
                have n0 := HP3.out.2.2.cell 0
                have n1 := HP3.out.2.2.cell 1
                have n2 := HP3.out.2.2.cell 2
                have n3 := HP3.out.2.2.cell 3
                have n4 := HP3.out.2.2.cell 4
                have n5 := HP3.out.2.2.cell 5
                have n6 := HP3.out.2.2.cell 6
                have n7 := HP3.out.2.2.cell 7
                simp only [List.getElem?_cons_zero, List.getElem?_cons_succ] at n0 n1 n2 n3 n4 n5 n6 n7
                have HP4 : Hid (PW w w3 cb pb c P ∧ InL w w3 cb pb P la lc (planTo c.room s raw (i + 1)).2) := by
                  refine ⟨HP3.out.1, ?_⟩
                  rw [HPt.out]; exact HP3.out.2.1
                have HLn : Hid ((planTo c.room s raw (i + 1)).2.length = LL.length) := by show _ = _; rw [HPt.out]
                have HRn : Hid ((planTo c.room s raw (i + 1)).1 = rm) := by show _ = _; rw [HPt.out]
                clear HP3
                go_wp2
                go_roundw
                case rel => first | exact ⟨i + 1, la, lc, by omega, by rw [HLn.out], by rw [HRn.out], by go_num, HP4.out.1, HP4.out.2⟩ | ((repeat apply Exists.intro); exact ⟨⟨i + 1, la, lc, by omega, by rw [HLn.out], by rw [HRn.out], by go_num, HP4.out.1, HP4.out.2⟩, rfl⟩)
                case measure => simp [intOf]; omega
        · have hnot : ¬ ((s : Int) < (S.length : Int) ∧ (i : Int) < (raw.length : Int)) := by omega
          have HLs : Hid (LL = planS c.room s (rawOf S s)) := by show _ = _; rw [HLL.out, ← HRaw.out]; unfold planS; rw [show i = raw.length by omega]
          by_cases hsS : s < S.length
          · have hsS' : (s : Int) < (S.length : Int) := by omega
            have hraw : raw = S[s] := by rw [HRaw.out]; unfold rawOf; rw [List.getElem?_eq_getElem hsS]; rfl
            obtain ⟨stb, sto, ra, rc, hsa, hstl, hstc, hacts, hevi⟩ := HSt.out s hsS
            rw [← hraw] at hstc
            have hiL' : ¬ (i : Int) < (raw.length : Int) := by omega
            subst hsa
            have st0 := (HPw.out.bel.cell (p := ⟨stb, sto + s, none⟩) hstl).trans hstc
            clear hacts hevi hraw hnot
            go_upto_region 18 with fail
            clear st0 hstc
            have b0 := HPw.out.mp.box.cell 0
            have b1 := HPw.out.mp.box.cell 1
            have b0f := HPw.out.mp.box.frozen 0
            simp only [List.getElem?_cons_zero, List.getElem?_cons_succ] at b0 b1
            obtain ⟨nL, HNL⟩ := hex P.L.length
            rw [← HNL.out] at b0 b1
            have hnL : nL ≤ 6 := by rw [HNL.out, HPL.out.1, planL_len]; omega
            have HFr : Hid (Row wr 24 1 P.pa nL P.pc P.outV) := by show Row _ _ _ _ _ _ _; rw [HNL.out]; exact HPw.out.mp.out
            have cxb : ∀ o, (wr.alloc o).cell? ⟨pb, 0, none⟩ = some (.slice P.pa nL P.pc) := fun o => (((Below.refl wr.heap.size wr).alloc (Nat.le_refl _) o).cell (p := ⟨pb, 0, none⟩) HPw.out.mp.box.lt).trans b0
            go_upto_region 19 with (at_builtin; refine wpList_append_lies _ rfl _ _ _ rfl 0 24 j0 _ 1 24 Tryd.underlying51 hj0 hy0 hy1 hy2 rfl (by omega) (.slice P.pa nL P.pc) nL P.outV rfl (ownsRow_of_heap HFr.out (fun j hj => Below.heap_alloc _ _ _ hj)) ⟨wr.heap.size, 0, none⟩ 1 1 [.slice la LL.length lc] rfl rfl (news_new _ _ (by simp) [.slice la LL.length lc] 24) (by simp [Value.oneCell']) (by omega) (by unfold maxLen; omega) (by omega) (by simp) (wr.heap.size + 1) (by simp) ?_; intro g2 cap u2 hown1 hgrow hat hlt1; rw [bk_own] at hgrow hat; have hbx2 : Blk u2 pb 99 [.slice P.pa nL P.pc, .slice P.ta nL P.tc] := (by have hb := HPw.out.mp.box; rw [← HNL.out] at hb; exact (hb.alloc _).grown hgrow (fun e => by have := HPw.out.mp.dis 0 1 pb rfl (by show some (bk P.pa) = _; rw [e]); omega)); have e7 := hbx2.cell 0; have f7 := hbx2.frozen 0; simp only [List.getElem?_cons_succ, List.getElem?_cons_zero] at e7)
            clear b0 b0f cxb HFr
            have HBx2 : Hid (Blk u2 pb 99 [.slice P.pa nL P.pc, .slice P.ta nL P.tc]) := hbx2
            have HOw : Hid (u2.ownsRow 0 24 1 (.slice (some ⟨g2, 0, none⟩) (nL + 1) cap) (nL + 1) (P.outV ++ [.slice la LL.length lc])) := hown1
            have HGr : Hid ((wr.alloc (.cells #[.slice la LL.length lc] 24)).grownBy u2 (bk P.pa)) := hgrow
            have HAt : Hid (bk P.pa = some g2 ∨ (wr.alloc (.cells #[.slice la LL.length lc] 24)).heap.size ≤ g2) := hat.imp id (fun e => by simp; omega)
            clear hbx2 hown1 hgrow hat hlt1 e7 f7 b1
            obtain ⟨u3, HU3⟩ := hex (u2.setCell ⟨pb, 0, none⟩ (.slice (some ⟨g2, 0, none⟩) (nL + 1) cap))
            have HB3 : Hid (Blk u3 pb 99 [.slice (some ⟨g2, 0, none⟩) (nL + 1) cap, .slice P.ta nL P.tc] ∧ Row u3 3 1 P.ta nL P.tc (natV P.K)) := by
              show _ ∧ _
              rw [HU3.out]
              refine ⟨HBx2.out.set 0 _, ?_⟩
              have hba : Below wr.heap.size wr (wr.alloc (.cells #[.slice la LL.length lc] 24)) := (Below.refl _ _).alloc (Nat.le_refl _) _
              have K2 : Kept (fun k => bk P.pa = some k) wr u2 := ((Kept.refl _ wr).below hba).grown HGr.out (fun k _ e => e)
              have Kc : Kept (fun k => k = pb) u2 (u2.setCell ⟨pb, 0, none⟩ (.slice (some ⟨g2, 0, none⟩) (nL + 1) cap)) := (Kept.refl (fun k => k = pb) u2).setCell (fun _ => rfl) _
              have hr := HPw.out.mp.at_
              rw [← HNL.out] at hr
              refine (hr.kept K2 (fun k e f => ?_)).kept Kc (fun k e f => ?_)
              · have := HPw.out.mp.dis 1 2 k (by show some (bk P.pa) = _; rw [f]) (by show some (bk P.ta) = _; rw [e]); omega
              · have := HPw.out.mp.dis 0 2 k (by show some (some pb) = _; rw [f]) (by show some (bk P.ta) = _; rw [e]); omega
            have hbt : bk P.ta ≠ some pb := fun e => by have := HPw.out.mp.dis 0 2 pb rfl (by show some (bk P.ta) = _; rw [e]); omega
            have cx1 : ∀ o, (u3.alloc o).cell? ⟨pb, 1, none⟩ = some (.slice P.ta nL P.tc) := fun o => (HB3.out.1.alloc o).cell 1
            have b1 := HB3.out.1.cell 1
            simp only [List.getElem?_cons_zero, List.getElem?_cons_succ] at b1
            rw [← HU3.out]
            go_wp2_with (at_builtin; refine wpList_append_lies _ rfl _ _ _ rfl 0 3 l0 _ 1 8 Tryd.underlying52 hl0 hx0 hx1 hx2 rfl (by omega) (.slice P.ta nL P.tc) nL (natV P.K) rfl (ownsRow_of_heap HB3.out.2 (fun j hj => Below.heap_alloc _ _ _ hj)) ⟨u3.heap.size, 0, none⟩ 1 1 [.int .i64 0] rfl rfl (news_new _ _ (by simp) [.int .i64 0] 3) (by simp [Value.oneCell']) (by omega) (by unfold maxLen; omega) (by omega) (by simp) (u3.heap.size + 1) (by simp) ?_; intro g4 cap4 u4 hown4 hgrow4 hat4 hlt4; rw [bk_own] at hgrow4 hat4; have hbx4 : Blk u4 pb 99 [.slice (some ⟨g2, 0, none⟩) (nL + 1) cap, .slice P.ta nL P.tc] := (HB3.out.1.alloc _).grown hgrow4 hbt; have e8 := hbx4.cell 1; have f8 := hbx4.frozen 1; simp only [List.getElem?_cons_succ, List.getElem?_cons_zero] at e8)
            have HFin : Hid (∃ P', PW w (u4.setCell ⟨pb, 1, none⟩ (.slice (some ⟨g4, 0, none⟩) (nL + 1) cap4)) cb pb c P' ∧ P'.L = planL c.room S (s + 1) ∧ P'.K = List.replicate (s + 1) 0) := by
              have hba : Below wr.heap.size wr (wr.alloc (.cells #[.slice la LL.length lc] 24)) := (Below.refl _ _).alloc (Nat.le_refl _) _
              have hsz : u3.heap.size = u2.heap.size := by rw [HU3.out]; simp
              have hbb : Below u2.heap.size (u2.setCell ⟨pb, 0, none⟩ (.slice (some ⟨g2, 0, none⟩) (nL + 1) cap)) (u3.alloc (.cells #[.int .i64 0] 3)) := by
                rw [← HU3.out, ← hsz]; exact (Below.refl _ _).alloc (Nat.le_refl _) _
              have ho := HOw.out
              have hga := HGr.out
              have hg := HPw.out.mp.grow (la := la) (lc := lc) (l := LL) (g2 := g2) (cap := cap) (g4 := g4) (cap4 := cap4) (wa := wr.alloc (.cells #[.slice la LL.length lc] 24)) (w2 := u2) (wb := u3.alloc (.cells #[.int .i64 0] 3)) (w4 := u4) HIl.out.row (fun k e => (HIl.out.off k e).2.1) hba (by rw [← HNL.out]; exact ho) hga HAt.out (by rw [← HNL.out]; exact hbb) (by rw [← HNL.out]; exact hown4) hgrow4 (hat4.imp id (fun e => by simp; omega))
              rw [← HNL.out] at hg
              obtain ⟨m1, m2, m3, m4, _, _⟩ := hg
              refine ⟨_, ⟨kept_toBelow HPw.out.bel m2 HPw.out.fq, m1, ?_, HPw.out.cfg.kept m2 HPw.out.ncb, ?_⟩, ?_, ?_⟩
              · intro k hk
                have h1 := HPw.out.bel.size
                unfold Pl.fp at hk
                simp only [List.map_append, List.map_cons, List.map_nil, List.mem_append, List.mem_cons, List.not_mem_nil, or_false, bk, Option.map_some, Option.some.injEq] at hk
                rcases hk with (e | e | e) | e | e
                · exact HPw.out.fq k (by rw [e]; unfold Pl.fp; simp)
                · rw [e]
                  rcases m3 with f | f
                  · exact HPw.out.fq g2 (by unfold Pl.fp; rw [f]; simp)
                  · omega
                · rw [e]
                  rcases m4 with f | f
                  · exact HPw.out.fq g4 (by unfold Pl.fp; rw [f]; simp)
                  · omega
                · exact HPw.out.fq k (by unfold Pl.fp; exact List.mem_append_right _ e)
                · exact (HIl.out.off k e.symm).1
              · intro hk
                have h1 := HPw.out.cfg.lt
                unfold Pl.fp at hk
                simp only [List.map_append, List.map_cons, List.map_nil, List.mem_append, List.mem_cons, List.not_mem_nil, or_false, bk, Option.map_some, Option.some.injEq] at hk
                rcases hk with (e | e | e) | e | e
                · exact HPw.out.ncb (by rw [e]; unfold Pl.fp; simp)
                · rcases m3 with f | f
                  · exact HPw.out.ncb (by unfold Pl.fp; rw [f, ← e]; simp)
                  · omega
                · rcases m4 with f | f
                  · exact HPw.out.ncb (by unfold Pl.fp; rw [f, ← e]; simp)
                  · omega
                · exact HPw.out.ncb (by unfold Pl.fp; exact List.mem_append_right _ e)
                · exact (HIl.out.off cb e.symm).2.2 rfl
              · show P.L ++ [LL] = _
                rw [planL_succ, HPL.out.1, HLs.out]
              · show P.K ++ [0] = _
                rw [HPL.out.2, List.replicate_succ']
            obtain ⟨P', hpw', hL', hK'⟩ := HFin.out
            clear hown4 hgrow4 hat4 hlt4 hbx4 e8 f8 HOw HGr HAt HBx2 HB3 HIl HPw HU3 HFin
            go_roundw
            case rel => first | exact ⟨s + 1, P', by omega, by go_num, hpw', hL', hK'⟩ | ((repeat apply Exists.intro); exact ⟨⟨s + 1, P', by omega, by go_num, hpw', hL', hK'⟩, rfl⟩)
            case measure => simp [intOf]; omega
          · have hsS' : ¬ (s : Int) < (S.length : Int) := by omega
            have hsd : decide ((s : Int) < (S.length : Int)) = false := by simpa using hsS'
            clear hnot
            go_upto_region 18 with fail
            have b0 := HPw.out.mp.box.cell 0
            have b1 := HPw.out.mp.box.cell 1
            have b0f := HPw.out.mp.box.frozen 0
            simp only [List.getElem?_cons_zero, List.getElem?_cons_succ] at b0 b1
            obtain ⟨nL, HNL⟩ := hex P.L.length
            rw [← HNL.out] at b0 b1
            have hnL : nL ≤ 6 := by rw [HNL.out, HPL.out.1, planL_len]; omega
            have HFr : Hid (Row wr 24 1 P.pa nL P.pc P.outV) := by show Row _ _ _ _ _ _ _; rw [HNL.out]; exact HPw.out.mp.out
            have cxb : ∀ o, (wr.alloc o).cell? ⟨pb, 0, none⟩ = some (.slice P.pa nL P.pc) := fun o => (((Below.refl wr.heap.size wr).alloc (Nat.le_refl _) o).cell (p := ⟨pb, 0, none⟩) HPw.out.mp.box.lt).trans b0
            go_upto_region 19 with (at_builtin; refine wpList_append_lies _ rfl _ _ _ rfl 0 24 j0 _ 1 24 Tryd.underlying51 hj0 hy0 hy1 hy2 rfl (by omega) (.slice P.pa nL P.pc) nL P.outV rfl (ownsRow_of_heap HFr.out (fun j hj => Below.heap_alloc _ _ _ hj)) ⟨wr.heap.size, 0, none⟩ 1 1 [.slice la LL.length lc] rfl rfl (news_new _ _ (by simp) [.slice la LL.length lc] 24) (by simp [Value.oneCell']) (by omega) (by unfold maxLen; omega) (by omega) (by simp) (wr.heap.size + 1) (by simp) ?_; intro g2 cap u2 hown1 hgrow hat hlt1; rw [bk_own] at hgrow hat; have hbx2 : Blk u2 pb 99 [.slice P.pa nL P.pc, .slice P.ta nL P.tc] := (by have hb := HPw.out.mp.box; rw [← HNL.out] at hb; exact (hb.alloc _).grown hgrow (fun e => by have := HPw.out.mp.dis 0 1 pb rfl (by show some (bk P.pa) = _; rw [e]); omega)); have e7 := hbx2.cell 0; have f7 := hbx2.frozen 0; simp only [List.getElem?_cons_succ, List.getElem?_cons_zero] at e7)
            clear b0 b0f cxb HFr
            have HBx2 : Hid (Blk u2 pb 99 [.slice P.pa nL P.pc, .slice P.ta nL P.tc]) := hbx2
            have HOw : Hid (u2.ownsRow 0 24 1 (.slice (some ⟨g2, 0, none⟩) (nL + 1) cap) (nL + 1) (P.outV ++ [.slice la LL.length lc])) := hown1
            have HGr : Hid ((wr.alloc (.cells #[.slice la LL.length lc] 24)).grownBy u2 (bk P.pa)) := hgrow
            have HAt : Hid (bk P.pa = some g2 ∨ (wr.alloc (.cells #[.slice la LL.length lc] 24)).heap.size ≤ g2) := hat.imp id (fun e => by simp; omega)
            clear hbx2 hown1 hgrow hat hlt1 e7 f7 b1
            obtain ⟨u3, HU3⟩ := hex (u2.setCell ⟨pb, 0, none⟩ (.slice (some ⟨g2, 0, none⟩) (nL + 1) cap))
            have HB3 : Hid (Blk u3 pb 99 [.slice (some ⟨g2, 0, none⟩) (nL + 1) cap, .slice P.ta nL P.tc] ∧ Row u3 3 1 P.ta nL P.tc (natV P.K)) := by
              show _ ∧ _
              rw [HU3.out]
              refine ⟨HBx2.out.set 0 _, ?_⟩
              have hba : Below wr.heap.size wr (wr.alloc (.cells #[.slice la LL.length lc] 24)) := (Below.refl _ _).alloc (Nat.le_refl _) _
              have K2 : Kept (fun k => bk P.pa = some k) wr u2 := ((Kept.refl _ wr).below hba).grown HGr.out (fun k _ e => e)
              have Kc : Kept (fun k => k = pb) u2 (u2.setCell ⟨pb, 0, none⟩ (.slice (some ⟨g2, 0, none⟩) (nL + 1) cap)) := (Kept.refl (fun k => k = pb) u2).setCell (fun _ => rfl) _
              have hr := HPw.out.mp.at_
              rw [← HNL.out] at hr
              refine (hr.kept K2 (fun k e f => ?_)).kept Kc (fun k e f => ?_)
              · have := HPw.out.mp.dis 1 2 k (by show some (bk P.pa) = _; rw [f]) (by show some (bk P.ta) = _; rw [e]); omega
              · have := HPw.out.mp.dis 0 2 k (by show some (some pb) = _; rw [f]) (by show some (bk P.ta) = _; rw [e]); omega
            have hbt : bk P.ta ≠ some pb := fun e => by have := HPw.out.mp.dis 0 2 pb rfl (by show some (bk P.ta) = _; rw [e]); omega
            have cx1 : ∀ o, (u3.alloc o).cell? ⟨pb, 1, none⟩ = some (.slice P.ta nL P.tc) := fun o => (HB3.out.1.alloc o).cell 1
            have b1 := HB3.out.1.cell 1
            simp only [List.getElem?_cons_zero, List.getElem?_cons_succ] at b1
            rw [← HU3.out]
            go_wp2_with (at_builtin; refine wpList_append_lies _ rfl _ _ _ rfl 0 3 l0 _ 1 8 Tryd.underlying52 hl0 hx0 hx1 hx2 rfl (by omega) (.slice P.ta nL P.tc) nL (natV P.K) rfl (ownsRow_of_heap HB3.out.2 (fun j hj => Below.heap_alloc _ _ _ hj)) ⟨u3.heap.size, 0, none⟩ 1 1 [.int .i64 0] rfl rfl (news_new _ _ (by simp) [.int .i64 0] 3) (by simp [Value.oneCell']) (by omega) (by unfold maxLen; omega) (by omega) (by simp) (u3.heap.size + 1) (by simp) ?_; intro g4 cap4 u4 hown4 hgrow4 hat4 hlt4; rw [bk_own] at hgrow4 hat4; have hbx4 : Blk u4 pb 99 [.slice (some ⟨g2, 0, none⟩) (nL + 1) cap, .slice P.ta nL P.tc] := (HB3.out.1.alloc _).grown hgrow4 hbt; have e8 := hbx4.cell 1; have f8 := hbx4.frozen 1; simp only [List.getElem?_cons_succ, List.getElem?_cons_zero] at e8)
            have HFin : Hid (∃ P', PW w (u4.setCell ⟨pb, 1, none⟩ (.slice (some ⟨g4, 0, none⟩) (nL + 1) cap4)) cb pb c P' ∧ P'.L = planL c.room S (s + 1) ∧ P'.K = List.replicate (s + 1) 0) := by
              have hba : Below wr.heap.size wr (wr.alloc (.cells #[.slice la LL.length lc] 24)) := (Below.refl _ _).alloc (Nat.le_refl _) _
              have hsz : u3.heap.size = u2.heap.size := by rw [HU3.out]; simp
              have hbb : Below u2.heap.size (u2.setCell ⟨pb, 0, none⟩ (.slice (some ⟨g2, 0, none⟩) (nL + 1) cap)) (u3.alloc (.cells #[.int .i64 0] 3)) := by
                rw [← HU3.out, ← hsz]; exact (Below.refl _ _).alloc (Nat.le_refl _) _
              have ho := HOw.out
              have hga := HGr.out
              have hg := HPw.out.mp.grow (la := la) (lc := lc) (l := LL) (g2 := g2) (cap := cap) (g4 := g4) (cap4 := cap4) (wa := wr.alloc (.cells #[.slice la LL.length lc] 24)) (w2 := u2) (wb := u3.alloc (.cells #[.int .i64 0] 3)) (w4 := u4) HIl.out.row (fun k e => (HIl.out.off k e).2.1) hba (by rw [← HNL.out]; exact ho) hga HAt.out (by rw [← HNL.out]; exact hbb) (by rw [← HNL.out]; exact hown4) hgrow4 (hat4.imp id (fun e => by simp; omega))
              rw [← HNL.out] at hg
              obtain ⟨m1, m2, m3, m4, _, _⟩ := hg
              refine ⟨_, ⟨kept_toBelow HPw.out.bel m2 HPw.out.fq, m1, ?_, HPw.out.cfg.kept m2 HPw.out.ncb, ?_⟩, ?_, ?_⟩
              · intro k hk
                have h1 := HPw.out.bel.size
                unfold Pl.fp at hk
                simp only [List.map_append, List.map_cons, List.map_nil, List.mem_append, List.mem_cons, List.not_mem_nil, or_false, bk, Option.map_some, Option.some.injEq] at hk
                rcases hk with (e | e | e) | e | e
                · exact HPw.out.fq k (by rw [e]; unfold Pl.fp; simp)
                · rw [e]
                  rcases m3 with f | f
                  · exact HPw.out.fq g2 (by unfold Pl.fp; rw [f]; simp)
                  · omega
                · rw [e]
                  rcases m4 with f | f
                  · exact HPw.out.fq g4 (by unfold Pl.fp; rw [f]; simp)
                  · omega
                · exact HPw.out.fq k (by unfold Pl.fp; exact List.mem_append_right _ e)
                · exact (HIl.out.off k e.symm).1
              · intro hk
                have h1 := HPw.out.cfg.lt
                unfold Pl.fp at hk
                simp only [List.map_append, List.map_cons, List.map_nil, List.mem_append, List.mem_cons, List.not_mem_nil, or_false, bk, Option.map_some, Option.some.injEq] at hk
                rcases hk with (e | e | e) | e | e
                · exact HPw.out.ncb (by rw [e]; unfold Pl.fp; simp)
                · rcases m3 with f | f
                  · exact HPw.out.ncb (by unfold Pl.fp; rw [f, ← e]; simp)
                  · omega
                · rcases m4 with f | f
                  · exact HPw.out.ncb (by unfold Pl.fp; rw [f, ← e]; simp)
                  · omega
                · exact HPw.out.ncb (by unfold Pl.fp; exact List.mem_append_right _ e)
                · exact (HIl.out.off cb e.symm).2.2 rfl
              · show P.L ++ [LL] = _
                rw [planL_succ, HPL.out.1, HLs.out]
              · show P.K ++ [0] = _
                rw [HPL.out.2, List.replicate_succ']
            obtain ⟨P', hpw', hL', hK'⟩ := HFin.out
            clear hown4 hgrow4 hat4 hlt4 hbx4 e8 f8 HOw HGr HAt HBx2 HB3 HIl HPw HU3 HFin
            go_roundw
            case rel => first | exact ⟨s + 1, P', by omega, by go_num, hpw', hL', hK'⟩ | ((repeat apply Exists.intro); exact ⟨⟨s + 1, P', by omega, by go_num, hpw', hL', hK'⟩, rfl⟩)
            case measure => simp [intOf]; omega
    · have hlt' : ¬ (s : Int) < (n : Int) := by omega
      obtain rfl : s = n := by omega
      go_wp2
      go_ret
      exact ⟨pb, rfl, P, HPw.out.mp, HPw.out.fq, HPw.out.bel, HPL.out.1, HPL.out.2⟩
end Go.Proofs.YtghcololkgeoeaaDoor
