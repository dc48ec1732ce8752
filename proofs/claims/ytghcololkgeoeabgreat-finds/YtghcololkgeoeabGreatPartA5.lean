import Derived.Test.YtghcololkgeoeabGreatPartA4
import Derived.Test.YtghcololkgeoeabGreatPartA0
namespace Go.Proofs.YtghcololkgeoeabGreat
open Go.RowKit
set_option linter.unusedVariables false
set_option linter.unusedSimpArgs false

theorem toRow {w : World} {base : Nat} {t : TypeId} {sz : Nat} {a : Option Addr} {n c : Nat} {xs : List Value} (h : w.ownsRow base t sz (.slice a n c) n xs) : Row w t sz a n c xs := by
  obtain ⟨h1, h2⟩ := h
  refine ⟨h1, ?_⟩
  rcases h2 with h2 | ⟨g, cap, cur, hv, hg, r⟩
  · exact Or.inl h2
  · exact Or.inr ⟨g, cap, cur, hv, Nat.zero_le _, r⟩
theorem MemR.setMerged {w : World} {b : Nat} {R : Ref} (h : MemR w b R) (m : Int) : MemR (w.setCell ⟨b, 12, none⟩ (.int .i64 m)) b { R with merged := m } := by
  have d : ∀ i o k, (R.fp b)[i]? = some o → i ≠ 0 → o = some k → k ≠ b := fun i o k hi h0 e f => by
    subst f; subst e
    exact h0 (h.dis i 0 k hi rfl)
  have K : Kept (fun k => k = b) w (w.setCell ⟨b, 12, none⟩ (.int .i64 m)) := (Kept.refl (fun k => k = b) w).setCell (fun _ => rfl) _
  refine ⟨?_, h.stp.kept K (fun k e => d 1 _ k rfl (by omega) e), h.src.kept K (fun k e => d 2 _ k rfl (by omega) e), h.all.kept K (fun k e => d 3 _ k rfl (by omega) e), h.asd.kept K (fun k e => d 4 _ k rfl (by omega) e), ?_, ?_, h.dis⟩
  · exact h.eng.set 12 _
  · intro i r hr
    obtain ⟨hi, rfl⟩ := List.getElem?_eq_some_iff.1 hr
    exact (h.mrk i _ hr).kept K (fun k e => d _ _ k (fp_src hi).1 (by omega) e)
  · intro i r hr
    obtain ⟨hi, rfl⟩ := List.getElem?_eq_some_iff.1 hr
    exact (h.sqs i _ hr).kept K (fun k e => d _ _ k (fp_src hi).2 (by omega) e)

def Ref.active (R : Ref) (i : Nat) : Bool := (match R.srcs[i]? with | some r => r.inn | none => false) && !R.isIdle i
def Ref.leastOf (R : Ref) : Nat → Option Int
  | 0 => none
  | k + 1 => if R.active k then (match R.leastOf k with | none => some (R.mark k) | some m => if R.mark k < m then some (R.mark k) else some m) else R.leastOf k
def topOf (l : List Ev) : Option Int := l.foldl (fun o e => match o with | none => some (e.ts + 1) | some m => if m < e.ts + 1 then some (e.ts + 1) else some m) none
theorem topOf_snoc (l : List Ev) (e : Ev) : topOf (l ++ [e]) = match topOf l with | none => some (e.ts + 1) | some m => if m < e.ts + 1 then some (e.ts + 1) else some m := by
  unfold topOf; rw [List.foldl_append]; rfl
theorem topOf_none (l : List Ev) : topOf l = none ↔ l = [] := by
  constructor
  · intro h
    rcases List.eq_nil_or_concat l with e | ⟨L, x, e⟩
    · exact e
    · rw [e, List.concat_eq_append, topOf_snoc] at h
      split at h
      · simp at h
      · split at h <;> simp at h
  · rintro rfl; rfl
def Ref.aim (R : Ref) : Option Int := if (R.leastOf R.srcs.length).isSome then R.leastOf R.srcs.length else topOf (R.wait (-1))
def Ref.settled (R : Ref) : Ref := match R.aim with | some m => if R.merged < m then { R with merged := m } else R | none => R

theorem Ref.active_eq {R : Ref} {i : Nat} (hi : i < R.srcs.length) : R.active i = (R.srcs[i].inn && !R.isIdle i) := by simp [Ref.active, List.getElem?_eq_getElem hi]

set_option maxRecDepth 100000 in
set_option maxHeartbeats 4000000 in
theorem rsettle_any (b : Nat) (R : Ref) (w : World) (h : MemR w b R) (hall : R.all.length ≤ 1000) (hn : R.srcs.length ≤ 6) (hts : ∀ e ∈ R.all, -4398046511104 ≤ e.ts ∧ e.ts ≤ 4398046511104) :
    Calls Tryz.prog 54 #[.pointer (some ⟨b, 0, none⟩)] w fun e w' => e = .returned (.tuple #[]) ∧ MemR w' b R.settled ∧ Kept (fun k => k = b) w w' := by
  go_enter Tryz.func54, Tryz.ntmps54
  go_wp2
  go_loopw [2, 3, 4] (fun l so i wr => ∃ (k : Nat), k ≤ R.srcs.length ∧ i = .int .i64 k ∧ l = .int .i64 ((R.leastOf k).getD 0) ∧ so = .bool (R.leastOf k).isSome ∧ Below w.heap.size w wr) (fun _ _ i _ => R.srcs.length - (intOf i).toNat)
  case atStart => exact ⟨0, Nat.zero_le _, rfl, rfl, rfl, Below.refl _ _⟩
  case round =>
    obtain ⟨k, hk, rfl, rfl, rfl, hbel⟩ := hrel
    have hR := h.below hbel
    obtain ⟨_, c9, _, _, _⟩ := hR.cells
    by_cases hlt : k < R.srcs.length
    · have hlt' : (k : Int) < (R.srcs.length : Int) := by omega
      have hk0 : (0 : Int) ≤ (k : Int) := by omega
      have s0 := hR.srcCell k 0 hlt (by omega)
      simp only [RSrc.vals, List.getElem?_cons_zero, Nat.add_zero] at s0
      have HA : Hid (R.active k = (R.srcs[k].inn && !R.isIdle k)) := Ref.active_eq hlt
      have HL : Hid (R.leastOf (k + 1) = if R.active k then (match R.leastOf k with | none => some (R.mark k) | some m => if R.mark k < m then some (R.mark k) else some m) else R.leastOf k) := rfl
      have HR : Hid (MemR wr b R) := hR
      clear hR
      generalize hin : R.srcs[k].inn = inn at *
      generalize hid : R.isIdle k = idl at *
      cases inn with
      | false =>
        have HN : Hid (R.leastOf (k + 1) = R.leastOf k) := by show _ = _; rw [HL.out, HA.out]; simp
        go_wp2_with (go_at_call 43; refine (ridle_any b R k _ HR.out hlt).mono ?_; rintro e w' ⟨rfl, nq, rfl⟩)
        go_roundw
        case rel => exact ⟨k + 1, by omega, by go_num, by rw [HN.out], by rw [HN.out], bdrewN hbel _⟩
        case measure => simp [intOf]; omega
      | true =>
        cases idl with
        | true =>
          have HN : Hid (R.leastOf (k + 1) = R.leastOf k) := by show _ = _; rw [HL.out, HA.out]; simp
          go_wp2_with (go_at_call 43; refine (ridle_any b R k _ HR.out hlt).mono ?_; rintro e w' ⟨rfl, nq, rfl⟩; rw [hid])
          go_roundw
          case rel => exact ⟨k + 1, by omega, by go_num, by rw [HN.out], by rw [HN.out], bdrewN hbel _⟩
          case measure => simp [intOf]; omega
        | false =>
          cases hl : R.leastOf k with
          | none =>
            have HN : Hid (R.leastOf (k + 1) = some (R.mark k)) := by show _ = _; rw [HL.out, HA.out, hl]; simp
            go_wp2_with (first
              | (go_at_call 43; refine (ridle_any b R k _ HR.out hlt).mono ?_; rintro e w' ⟨rfl, nq, rfl⟩; rw [hid])
              | (go_at_call 44; refine (rmark_any b R k _ (HR.out.drewN _) hlt).mono ?_; rintro e w' ⟨rfl, rfl⟩))
            go_roundw
            case rel => exact ⟨k + 1, by omega, by go_num, by rw [HN.out]; rfl, by rw [HN.out]; rfl, bdrewN hbel _⟩
            case measure => simp [intOf]; omega
          | some m =>
            by_cases hm : R.mark k < m
            · have HN : Hid (R.leastOf (k + 1) = some (R.mark k)) := by show _ = _; rw [HL.out, HA.out, hl]; simp [hm]
              go_wp2_with (first
                | (go_at_call 43; refine (ridle_any b R k _ HR.out hlt).mono ?_; rintro e w' ⟨rfl, nq, rfl⟩; rw [hid])
                | (go_at_call 44; refine (rmark_any b R k _ (HR.out.drewN _) hlt).mono ?_; rintro e w' ⟨rfl, rfl⟩))
              go_roundw
              case rel => exact ⟨k + 1, by omega, by go_num, by rw [HN.out]; rfl, by rw [HN.out]; rfl, bdrewN hbel _⟩
              case measure => simp [intOf]; omega
            · have HN : Hid (R.leastOf (k + 1) = some m) := by show _ = _; rw [HL.out, HA.out, hl]; simp [hm]
              have hd : decide (R.mark k < m) = false := by simpa using hm
              go_wp2_with (first
                | (go_at_call 43; refine (ridle_any b R k _ HR.out hlt).mono ?_; rintro e w' ⟨rfl, nq, rfl⟩; rw [hid])
                | (go_at_call 44; refine (rmark_any b R k _ (HR.out.drewN _) hlt).mono ?_; rintro e w' ⟨rfl, rfl⟩))
              go_roundw
              case rel => exact ⟨k + 1, by omega, by go_num, by rw [HN.out]; rfl, by rw [HN.out]; rfl, bdrewN hbel _⟩
              case measure => simp [intOf]; omega
    · obtain rfl : k = R.srcs.length := by omega
      have HR : Hid (MemR wr b R) := hR
      clear hR
      go_wp2_with (go_at_call 42; refine (rwaiting_any b R (-1) _ HR.out hall).mono ?_; rintro e w2 ⟨a, c, rfl, hown, hb2⟩)
      have hR2 := HR.out.below hb2
      obtain ⟨_, _, _, _, c12⟩ := hR2.cells
      have f12 := hR2.eng.frozen 12
      have hK : Hid (Kept (fun k => k = b) w w2) := ((Kept.refl (fun k => k = b) w).trans (below_kept (hbel.trans (hb2.mono hbel.size)) _))
      have HR2 : Hid (MemR w2 b R) := hR2
      clear hR2
      cases hl : R.leastOf R.srcs.length with
      | some m =>
        have HA : Hid (R.aim = some m) := by show _ = _; simp [Ref.aim, hl]
        refine wp_loop_rounds 1 ?_
        rw [rounds_succ]
        by_cases hw0 : (0 : Int) < ((R.wait (-1)).length : Int)
        all_goals
          by_cases hm : R.merged < m
          · have HS : Hid (R.settled = { R with merged := m }) := by show _ = _; simp [Ref.settled, HA.out, hm]
            go_wp2
            go_end0
            exact ⟨rfl, by rw [HS.out]; exact HR2.out.setMerged m, hK.out.setCell (fun _ => rfl) _⟩
          · have HS : Hid (R.settled = R) := by show _ = _; simp [Ref.settled, HA.out, hm]
            have hd : decide (R.merged < m) = false := by simpa using hm
            go_wp2
            go_end0
            exact ⟨rfl, by rw [HS.out]; exact HR2.out, hK.out⟩
      | none =>
        have HA : Hid (R.aim = topOf (R.wait (-1))) := by show _ = _; simp [Ref.aim, hl]
        have hwl : (R.wait (-1)).length ≤ 1000 := by
          have := List.length_filter_le (waits R.merged (-1)) R.all
          unfold Ref.wait; omega
        have hwt : Hid (∀ e ∈ R.wait (-1), -4398046511104 ≤ e.ts ∧ e.ts ≤ 4398046511104) := fun e he => hts e (List.mem_filter.1 he).1
        have HO : Hid (w2.ownsRow wr.heap.size 30 5 (.slice a (R.wait (-1)).length c) (R.wait (-1)).length (evs (R.wait (-1)))) := hown
        clear hown
        generalize R.wait (-1) = W at *
        go_loopw [2, 8] (fun l i wx => ∃ k : Nat, k ≤ W.length ∧ i = .int .i64 k ∧ l = .int .i64 ((topOf (W.take k)).getD 0) ∧ wx = w2) (fun _ i _ => W.length - (intOf i).toNat)
        case atStart => exact ⟨0, Nat.zero_le _, rfl, by simp [topOf], rfl⟩
        case round =>
          obtain ⟨k, hk, rfl, rfl, rfl⟩ := hrel
          by_cases hlt : k < W.length
          · have hlt' : (k : Int) < (W.length : Int) := by omega
            have hk0 : (0 : Int) ≤ (k : Int) := by omega
            obtain ⟨g, rfl, hnc, _, _, e2, _⟩ := evRow_cells (toRow HO.out) k hlt
            have hb := hwt.out W[k] (List.getElem_mem hlt)
            have HT : Hid (topOf (W.take (k + 1)) = match topOf (W.take k) with | none => some (W[k].ts + 1) | some m => if m < W[k].ts + 1 then some (W[k].ts + 1) else some m) := by show _ = _; rw [take_succ' W k hlt, topOf_snoc]
            have HK : Hid (k = 0 ↔ topOf (W.take k) = none) := by
              show _ ↔ _
              rw [topOf_none, List.take_eq_nil_iff]
              constructor
              · exact Or.inl
              · rintro (e | e)
                · exact e
                · rw [e] at hlt; simp at hlt
            obtain ⟨hb1, hb2'⟩ := hb
            by_cases hz : k = 0
            · have HN : Hid (topOf (W.take (k + 1)) = some (W[k].ts + 1)) := by show _ = _; rw [HT.out, HK.out.1 hz]
              have hz' : ((k : Int) == 0) = true := by simp [hz]
              have HZ : Hid (k = 0) := hz
              clear hz
              go_wp2
              go_roundw
              case rel => exact ⟨k + 1, by omega, by go_num, by rw [HN.out]; go_num, trivial⟩
              case measure => simp [intOf]; omega
            · have hz' : ((k : Int) == 0) = false := by simp; omega
              cases ht : topOf (W.take k) with
              | none => exact absurd (HK.out.2 ht) hz
              | some m =>
                by_cases hm : m < W[k].ts + 1
                · have HN : Hid (topOf (W.take (k + 1)) = some (W[k].ts + 1)) := by show _ = _; rw [HT.out, ht]; simp [hm]
                  go_wp2
                  go_roundw
                  case rel => exact ⟨k + 1, by omega, by go_num, by rw [HN.out]; go_num, trivial⟩
                  case measure => simp [intOf]; omega
                · have HN : Hid (topOf (W.take (k + 1)) = some m) := by show _ = _; rw [HT.out, ht]; simp [hm]
                  go_wp2
                  go_roundw
                  case rel => exact ⟨k + 1, by omega, by go_num, by rw [HN.out] <;> rfl, trivial⟩
                  case measure => simp [intOf]; omega
          · have hall' : W.take k = W := List.take_of_length_le (by omega)
            rw [hall']
            cases ht : topOf W with
            | none =>
              have hW : W = [] := (topOf_none W).1 ht
              have HS : Hid (R.settled = R) := by show _ = _; simp [Ref.settled, HA.out, ht]
              have hw0 : ¬ (0 : Int) < (W.length : Int) := by simp [hW]
              go_wp2
              go_end0
              exact ⟨rfl, by rw [HS.out]; exact HR2.out, hK.out⟩
            | some m =>
              have hw0 : (0 : Int) < (W.length : Int) := by
                cases W with
                | nil => simp [topOf] at ht
                | cons x l => simp
              by_cases hm : R.merged < m
              · have HS : Hid (R.settled = { R with merged := m }) := by show _ = _; simp [Ref.settled, HA.out, ht, hm]
                go_wp2
                go_end0
                exact ⟨rfl, by rw [HS.out]; exact HR2.out.setMerged m, hK.out.setCell (fun _ => rfl) _⟩
              · have HS : Hid (R.settled = R) := by show _ = _; simp [Ref.settled, HA.out, ht, hm]
                have hd : decide (R.merged < m) = false := by simpa using hm
                go_wp2
                go_end0
                exact ⟨rfl, by rw [HS.out]; exact HR2.out, hK.out⟩
end Go.Proofs.YtghcololkgeoeabGreat
namespace Go.Proofs.YtghcololkgeoeabGreat
open Go.RowKit
set_option linter.unusedVariables false
set_option linter.unusedSimpArgs false

structure ButR (w' : World) (b : Nat) (R : Ref) (j1 j2 : Nat) : Prop where
  eng : 0 ≠ j1 → 0 ≠ j2 → Blk w' b 58 R.vals
  stp : 1 ≠ j1 → 1 ≠ j2 → Row w' 134 2 R.pa R.steps.length R.pc (flat R.steps)
  src : 2 ≠ j1 → 2 ≠ j2 → Row w' 100 5 (some ⟨R.sg, 0, none⟩) R.srcs.length R.sc (R.srcs.flatMap RSrc.vals)
  all : 3 ≠ j1 → 3 ≠ j2 → Row w' 30 5 R.aa R.all.length R.ac (evs R.all)
  asd : 4 ≠ j1 → 4 ≠ j2 → Row w' 30 5 R.da R.aside.length R.dc (evs R.aside)
  mrk : ∀ (i : Nat) r, R.srcs[i]? = some r → 5 + 2 * i ≠ j1 → 5 + 2 * i ≠ j2 → Row w' 3 1 r.ma r.marks.length r.mc (ints r.marks)
  sqs : ∀ (i : Nat) r, R.srcs[i]? = some r → 6 + 2 * i ≠ j1 → 6 + 2 * i ≠ j2 → Row w' 3 1 r.qa r.seqs.length r.qc (ints r.seqs)

theorem MemR.but {S : Nat → Prop} {w w' : World} {b : Nat} {R : Ref} {j1 j2 : Nat} {o1 o2 : Option Nat} (h : MemR w b R) (K : Kept S w w') (h1 : (R.fp b)[j1]? = some o1) (h2 : (R.fp b)[j2]? = some o2) (hS : ∀ k, S k → o1 = some k ∨ o2 = some k) : ButR w' b R j1 j2 := by
  have n : ∀ i k, (R.fp b)[i]? = some (some k) → i ≠ j1 → i ≠ j2 → ¬ S k := fun i k hi n1 n2 hs => by
    rcases hS k hs with e | e
    · exact n1 (h.dis i j1 k hi (by rw [h1, e]))
    · exact n2 (h.dis i j2 k hi (by rw [h2, e]))
  refine ⟨fun a c => h.eng.kept K (n 0 b rfl a c), fun a c => h.stp.kept K (fun k e => n 1 k (by rw [← e]; rfl) a c), fun a c => h.src.kept K (fun k e => n 2 k (by rw [← e]; rfl) a c), fun a c => h.all.kept K (fun k e => n 3 k (by rw [← e]; rfl) a c), fun a c => h.asd.kept K (fun k e => n 4 k (by rw [← e]; rfl) a c), ?_, ?_⟩
  · intro i r hr a c
    obtain ⟨hi, rfl⟩ := List.getElem?_eq_some_iff.1 hr
    exact (h.mrk i _ hr).kept K (fun k e => n _ k (by rw [(fp_src hi).1, e]) a c)
  · intro i r hr a c
    obtain ⟨hi, rfl⟩ := List.getElem?_eq_some_iff.1 hr
    exact (h.sqs i _ hr).kept K (fun k e => n _ k (by rw [(fp_src hi).2, e]) a c)

theorem srcs_set {R : Ref} {w' : World} {i : Nat} (r' : RSrc) (hi : i < R.srcs.length) (o : Nat) (ho : o < 5) (v : Value) (hv : r'.vals = R.srcs[i].vals.set o v)
    (h : Row w' 100 5 (some ⟨R.sg, 0, none⟩) R.srcs.length R.sc (R.srcs.flatMap RSrc.vals)) :
    Row (w'.setCell ⟨R.sg, i * 5 + o, none⟩ v) 100 5 (some ⟨R.sg, 0, none⟩) (R.srcs.set i r').length R.sc ((R.srcs.set i r').flatMap RSrc.vals) := by
  have := h.set (i * 5 + o) v
  rw [flatMap_set _ 5 RSrc.len _ i o ho hi v r' hv] at this
  rw [List.length_set]
  exact this
theorem set_get {α : Type} {l : List α} {i j : Nat} {a b : α} (h : (l.set i a)[j]? = some b) : (i = j ∧ b = a) ∨ (i ≠ j ∧ l[j]? = some b) := by
  rw [List.getElem?_set] at h
  split at h
  · rename_i e
    split at h
    · simp only [Option.some.injEq] at h; exact Or.inl ⟨e, h.symm⟩
    · simp at h
  · rename_i e; exact Or.inr ⟨e, h⟩
theorem fp_set_src {R : Ref} {b i : Nat} (r' : RSrc) (hi : i < R.srcs.length) : ({ R with srcs := R.srcs.set i r' } : Ref).fp b = ((R.fp b).set (5 + 2 * i) (bk r'.ma)).set (6 + 2 * i) (bk r'.qa) := by
  have key : ∀ (l : List RSrc) (i : Nat), i < l.length → (l.set i r').flatMap (fun r => [bk r.ma, bk r.qa]) = ((l.flatMap (fun r => [bk r.ma, bk r.qa])).set (2 * i) (bk r'.ma)).set (2 * i + 1) (bk r'.qa) := by
    intro l
    induction l with
    | nil => intro i hi; simp at hi
    | cons a l ih =>
      intro i hi
      cases i with
      | zero => simp
      | succ i =>
        simp only [List.set_cons_succ, List.flatMap_cons]
        rw [ih i (by simpa using hi), List.set_append_right _ _ (by simp; omega), List.set_append_right _ _ (by simp; omega)]
        simp [show 2 * (i + 1) - 2 = 2 * i by omega, show 2 * (i + 1) + 1 - 2 = 2 * i + 1 by omega]
  unfold Ref.fp
  simp only
  rw [key R.srcs i hi, List.set_append_right _ _ (by simp), List.set_append_right _ _ (by simp; omega)]
  simp [show 5 + 2 * i - 5 = 2 * i by omega, show 6 + 2 * i - 5 = 2 * i + 1 by omega]
theorem set_self {α : Type} {l : List α} {i : Nat} {a : α} (h : l[i]? = some a) : l.set i a = l := by
  apply List.ext_getElem?
  intro j
  rw [List.getElem?_set]
  split
  · rename_i e
    subst e
    rw [h, if_pos (by rw [List.getElem?_eq_some_iff] at h; exact h.1)]
  · rfl

theorem MemR.setSrc {w : World} {b : Nat} {R : Ref} {i : Nat} (h : MemR w b R) (r' : RSrc) (hi : i < R.srcs.length) (o : Nat) (ho : o < 5) (v : Value) (hv : r'.vals = R.srcs[i].vals.set o v)
    (hm : r'.marks = R.srcs[i].marks ∧ r'.ma = R.srcs[i].ma ∧ r'.mc = R.srcs[i].mc) (hq : r'.seqs = R.srcs[i].seqs ∧ r'.qa = R.srcs[i].qa ∧ r'.qc = R.srcs[i].qc) :
    MemR (w.setCell ⟨R.sg, i * 5 + o, none⟩ v) b { R with srcs := R.srcs.set i r' } ∧ Kept (fun k => some k ∈ R.fp b) w (w.setCell ⟨R.sg, i * 5 + o, none⟩ v) := by
  have K : Kept (fun k => k = R.sg) w (w.setCell ⟨R.sg, i * 5 + o, none⟩ v) := (Kept.refl (fun k => k = R.sg) w).setCell (fun _ => rfl) _
  have B := h.but (j1 := 2) (j2 := 2) K rfl rfl (fun k e => Or.inl (by rw [e]))
  have hfp : ({ R with srcs := R.srcs.set i r' } : Ref).fp b = R.fp b := by
    rw [fp_set_src r' hi, hm.2.1, hq.2.1, set_self (fp_src hi).1, set_self (fp_src hi).2]
  refine ⟨⟨?_, B.stp (by omega) (by omega), srcs_set r' hi o ho v hv h.src, B.all (by omega) (by omega), B.asd (by omega) (by omega), ?_, ?_, by rw [hfp]; exact h.dis⟩, K.mono (fun k _ e => by subst e; simp [Ref.fp])⟩
  · have := B.eng (by omega) (by omega)
    unfold Ref.vals at *
    simpa using this
  · intro j r hr
    rcases set_get hr with ⟨e, rfl⟩ | ⟨_, hr⟩
    · subst e
      rw [hm.1, hm.2.1, hm.2.2]
      exact B.mrk i _ (List.getElem?_eq_getElem hi) (by omega) (by omega)
    · exact B.mrk j r hr (by omega) (by omega)
  · intro j r hr
    rcases set_get hr with ⟨e, rfl⟩ | ⟨_, hr⟩
    · subst e
      rw [hq.1, hq.2.1, hq.2.2]
      exact B.sqs i _ (List.getElem?_eq_getElem hi) (by omega) (by omega)
    · exact B.sqs j r hr (by omega) (by omega)

theorem ints_snoc (l : List Int) (x : Int) : ints (l ++ [x]) = ints l ++ [.int .i64 x] := by simp [ints]
theorem app_at {a : Option Addr} {n c g H : Nat} (h : (Value.slice a n c).ownBlock = some g ∨ g = H) : bk a = some g ∨ ∃ k, some g = some k ∧ H ≤ k := by
  rcases h with h | h
  · rw [bk_own] at h; exact Or.inl h
  · exact Or.inr ⟨g, rfl, by omega⟩

theorem MemR.appMark {w w1 : World} {b : Nat} {R : Ref} {i g cap : Nat} {x : Int} {w0 : World} (h : MemR w b R) (hb0 : Below w.heap.size w w0) (hi : i < R.srcs.length)
    (hown : w1.ownsRow 0 3 1 (.slice (some ⟨g, 0, none⟩) (R.srcs[i].marks.length + 1) cap) (R.srcs[i].marks.length + 1) (ints R.srcs[i].marks ++ [.int .i64 x]))
    (hg : w0.grownBy w1 (Value.slice R.srcs[i].ma R.srcs[i].marks.length R.srcs[i].mc).ownBlock) (hat : (Value.slice R.srcs[i].ma R.srcs[i].marks.length R.srcs[i].mc).ownBlock = some g ∨ g = w.heap.size + 1) :
    MemR (w1.setCell ⟨R.sg, i * 5 + 2, none⟩ (.slice (some ⟨g, 0, none⟩) (R.srcs[i].marks.length + 1) cap)) b { R with srcs := R.srcs.set i { R.srcs[i] with marks := R.srcs[i].marks ++ [x], ma := some ⟨g, 0, none⟩, mc := cap } } ∧
      Kept (fun k => some k ∈ R.fp b) w (w1.setCell ⟨R.sg, i * 5 + 2, none⟩ (.slice (some ⟨g, 0, none⟩) (R.srcs[i].marks.length + 1) cap)) := by
  rw [bk_own] at hg
  have hsg : R.sg < w.heap.size := h.src.lt (a := some ⟨R.sg, 0, none⟩) rfl
  have hgs : g ≠ R.sg := by
    intro e
    rcases hat with hat | hat
    · rw [bk_own] at hat
      exact h.dis.ne (i := 2) (j := 5 + 2 * i) rfl (fp_src hi).1 (by omega) (by rw [hat, e])
    · omega
  have K1 : Kept (fun k => bk R.srcs[i].ma = some k) w w1 := ((Kept.refl (fun k => bk R.srcs[i].ma = some k) w).below hb0).grown hg (fun k _ e => e)
  have B1 := h.but (j1 := 5 + 2 * i) (j2 := 5 + 2 * i) K1 (fp_src hi).1 (fp_src hi).1 (fun k e => Or.inl e)
  have K : Kept (fun k => bk R.srcs[i].ma = some k ∨ k = R.sg) w (w1.setCell ⟨R.sg, i * 5 + 2, none⟩ (.slice (some ⟨g, 0, none⟩) (R.srcs[i].marks.length + 1) cap)) := (K1.mono (S' := fun k => bk R.srcs[i].ma = some k ∨ k = R.sg) (fun k _ e => Or.inl e)).setCell (fun _ => Or.inr rfl) _
  have B := h.but (j1 := 5 + 2 * i) (j2 := 2) K (fp_src hi).1 rfl (fun k e => e.imp id (fun e => by rw [e]))
  refine ⟨⟨?_, B.stp (by omega) (by omega), ?_, B.all (by omega) (by omega), B.asd (by omega) (by omega), ?_, ?_, ?_⟩, K.mono (fun k _ e => ?_)⟩
  · have := B.eng (by omega) (by omega)
    unfold Ref.vals at *
    simpa using this
  · refine srcs_set _ hi 2 (by omega) _ ?_ (B1.src (by omega) (by omega))
    simp [RSrc.vals]
  · intro j r hr
    rcases set_get hr with ⟨e, rfl⟩ | ⟨hne, hr⟩
    · simp only [ints_snoc, List.length_append, List.length_cons, List.length_nil]
      exact (Row.other (a := some ⟨g, 0, none⟩) hown (by simp [bk]; exact hgs) _)
    · exact B.mrk j r hr (by omega) (by omega)
  · intro j r hr
    rcases set_get hr with ⟨e, rfl⟩ | ⟨hne, hr⟩
    · subst e
      exact B.sqs i R.srcs[i] (List.getElem?_eq_getElem hi) (by omega) (by omega)
    · exact B.sqs j r hr (by omega) (by omega)
  · rw [fp_set_src _ hi]
    simp only
    have hp : PD ((R.fp b).set (5 + 2 * i) (some g)) := h.dis.set (H := w.heap.size) h.fp_lt (by
      rw [(fp_src hi).1]
      rcases app_at hat with e | ⟨k, e, hk⟩
      · exact Or.inl (by rw [e])
      · exact Or.inr ⟨k, e, by omega⟩)
    rw [set_self]
    · exact hp
    · rw [List.getElem?_set, if_neg (by omega)]; exact (fp_src hi).2
  · rcases e with e | e
    · exact List.mem_of_getElem? ((fp_src hi).1.trans (by rw [e]))
    · subst e; simp [Ref.fp]
theorem MemR.appSeq {w w1 : World} {b : Nat} {R : Ref} {i g cap : Nat} {x : Int} {w0 : World} (h : MemR w b R) (hb0 : Below w.heap.size w w0) (hi : i < R.srcs.length)
    (hown : w1.ownsRow 0 3 1 (.slice (some ⟨g, 0, none⟩) (R.srcs[i].seqs.length + 1) cap) (R.srcs[i].seqs.length + 1) (ints R.srcs[i].seqs ++ [.int .i64 x]))
    (hg : w0.grownBy w1 (Value.slice R.srcs[i].qa R.srcs[i].seqs.length R.srcs[i].qc).ownBlock) (hat : (Value.slice R.srcs[i].qa R.srcs[i].seqs.length R.srcs[i].qc).ownBlock = some g ∨ g = w.heap.size + 1) :
    MemR (w1.setCell ⟨R.sg, i * 5 + 3, none⟩ (.slice (some ⟨g, 0, none⟩) (R.srcs[i].seqs.length + 1) cap)) b { R with srcs := R.srcs.set i { R.srcs[i] with seqs := R.srcs[i].seqs ++ [x], qa := some ⟨g, 0, none⟩, qc := cap } } ∧
      Kept (fun k => some k ∈ R.fp b) w (w1.setCell ⟨R.sg, i * 5 + 3, none⟩ (.slice (some ⟨g, 0, none⟩) (R.srcs[i].seqs.length + 1) cap)) := by
  rw [bk_own] at hg
  have hsg : R.sg < w.heap.size := h.src.lt (a := some ⟨R.sg, 0, none⟩) rfl
  have hgs : g ≠ R.sg := by
    intro e
    rcases hat with hat | hat
    · rw [bk_own] at hat
      exact h.dis.ne (i := 2) (j := 6 + 2 * i) rfl (fp_src hi).2 (by omega) (by rw [hat, e])
    · omega
  have K1 : Kept (fun k => bk R.srcs[i].qa = some k) w w1 := ((Kept.refl (fun k => bk R.srcs[i].qa = some k) w).below hb0).grown hg (fun k _ e => e)
  have B1 := h.but (j1 := 6 + 2 * i) (j2 := 6 + 2 * i) K1 (fp_src hi).2 (fp_src hi).2 (fun k e => Or.inl e)
  have K : Kept (fun k => bk R.srcs[i].qa = some k ∨ k = R.sg) w (w1.setCell ⟨R.sg, i * 5 + 3, none⟩ (.slice (some ⟨g, 0, none⟩) (R.srcs[i].seqs.length + 1) cap)) := (K1.mono (S' := fun k => bk R.srcs[i].qa = some k ∨ k = R.sg) (fun k _ e => Or.inl e)).setCell (fun _ => Or.inr rfl) _
  have B := h.but (j1 := 6 + 2 * i) (j2 := 2) K (fp_src hi).2 rfl (fun k e => e.imp id (fun e => by rw [e]))
  refine ⟨⟨?_, B.stp (by omega) (by omega), ?_, B.all (by omega) (by omega), B.asd (by omega) (by omega), ?_, ?_, ?_⟩, K.mono (fun k _ e => ?_)⟩
  · have := B.eng (by omega) (by omega)
    unfold Ref.vals at *
    simpa using this
  · refine srcs_set _ hi 3 (by omega) _ ?_ (B1.src (by omega) (by omega))
    simp [RSrc.vals]
  · intro j r hr
    rcases set_get hr with ⟨e, rfl⟩ | ⟨hne, hr⟩
    · subst e
      exact B.mrk i R.srcs[i] (List.getElem?_eq_getElem hi) (by omega) (by omega)
    · exact B.mrk j r hr (by omega) (by omega)
  · intro j r hr
    rcases set_get hr with ⟨e, rfl⟩ | ⟨hne, hr⟩
    · simp only [ints_snoc, List.length_append, List.length_cons, List.length_nil]
      exact (Row.other (a := some ⟨g, 0, none⟩) hown (by simp [bk]; exact hgs) _)
    · exact B.sqs j r hr (by omega) (by omega)
  · rw [fp_set_src _ hi]
    simp only
    rw [set_self (fp_src hi).1]
    exact h.dis.set (H := w.heap.size) h.fp_lt (by
      rw [(fp_src hi).2]
      rcases app_at hat with e | ⟨k, e, hk⟩
      · exact Or.inl (by rw [e]; rfl)
      · exact Or.inr ⟨k, e, by omega⟩)
  · rcases e with e | e
    · exact List.mem_of_getElem? ((fp_src hi).2.trans (by rw [e]))
    · subst e; simp [Ref.fp]
theorem MemR.appAll {w w1 : World} {b : Nat} {R : Ref} {g cap : Nat} {x : Ev} {w0 : World} (h : MemR w b R) (hb0 : Below w.heap.size w w0)
    (hown : w1.ownsRow 0 30 5 (.slice (some ⟨g, 0, none⟩) (R.all.length + 1) cap) (R.all.length + 1) (evs R.all ++ x.vals))
    (hg : w0.grownBy w1 (Value.slice R.aa R.all.length R.ac).ownBlock) (hat : (Value.slice R.aa R.all.length R.ac).ownBlock = some g ∨ g = w.heap.size + 1) :
    MemR (w1.setCell ⟨b, 10, none⟩ (.slice (some ⟨g, 0, none⟩) (R.all.length + 1) cap)) b { R with all := R.all ++ [x], aa := some ⟨g, 0, none⟩, ac := cap } ∧
      Kept (fun k => some k ∈ R.fp b) w (w1.setCell ⟨b, 10, none⟩ (.slice (some ⟨g, 0, none⟩) (R.all.length + 1) cap)) := by
  rw [bk_own] at hg
  have hbl : b < w.heap.size := h.eng.lt
  have hgs : g ≠ b := by
    intro e
    rcases hat with hat | hat
    · rw [bk_own] at hat
      exact h.dis.ne (i := 0) (j := 3) rfl rfl (by omega) (by rw [hat, e])
    · omega
  have K1 : Kept (fun k => bk R.aa = some k) w w1 := ((Kept.refl (fun k => bk R.aa = some k) w).below hb0).grown hg (fun k _ e => e)
  have B1 := h.but (j1 := 3) (j2 := 3) K1 rfl rfl (fun k e => Or.inl e)
  have K : Kept (fun k => bk R.aa = some k ∨ k = b) w (w1.setCell ⟨b, 10, none⟩ (.slice (some ⟨g, 0, none⟩) (R.all.length + 1) cap)) := (K1.mono (S' := fun k => bk R.aa = some k ∨ k = b) (fun k _ e => Or.inl e)).setCell (fun _ => Or.inr rfl) _
  have B := h.but (j1 := 3) (j2 := 0) K rfl rfl (fun k e => e.imp id (fun e => by rw [e]))
  refine ⟨⟨?_, B.stp (by omega) (by omega), B.src (by omega) (by omega), ?_, B.asd (by omega) (by omega), fun i r hr => B.mrk i r hr (by omega) (by omega), fun i r hr => B.sqs i r hr (by omega) (by omega), ?_⟩, K.mono (fun k _ e => ?_)⟩
  · have := (B1.eng (by omega) (by omega)).set 10 (.slice (some ⟨g, 0, none⟩) (R.all.length + 1) cap)
    unfold Ref.vals Cfg.vals at *
    simpa using this
  · simp only [evs_snoc, List.length_append, List.length_cons, List.length_nil]
    exact (Row.other (a := some ⟨g, 0, none⟩) hown (by simp [bk]; exact hgs) _)
  · have e : ({ R with all := R.all ++ [x], aa := some ⟨g, 0, none⟩, ac := cap } : Ref).fp b = (R.fp b).set 3 (some g) := rfl
    rw [e]
    exact h.dis.set (H := w.heap.size) h.fp_lt (by
      rcases app_at hat with e | ⟨k, e, hk⟩
      · exact Or.inl (by rw [← e]; rfl)
      · exact Or.inr ⟨k, e, by omega⟩)
  · rcases e with e | e
    · exact List.mem_of_getElem? (i := 3) (by rw [← e]; rfl)
    · subst e; simp [Ref.fp]
theorem MemR.appAside {w w1 : World} {b : Nat} {R : Ref} {g cap : Nat} {x : Ev} {w0 : World} (h : MemR w b R) (hb0 : Below w.heap.size w w0)
    (hown : w1.ownsRow 0 30 5 (.slice (some ⟨g, 0, none⟩) (R.aside.length + 1) cap) (R.aside.length + 1) (evs R.aside ++ x.vals))
    (hg : w0.grownBy w1 (Value.slice R.da R.aside.length R.dc).ownBlock) (hat : (Value.slice R.da R.aside.length R.dc).ownBlock = some g ∨ g = w.heap.size + 1) :
    MemR (w1.setCell ⟨b, 11, none⟩ (.slice (some ⟨g, 0, none⟩) (R.aside.length + 1) cap)) b { R with aside := R.aside ++ [x], da := some ⟨g, 0, none⟩, dc := cap } ∧
      Kept (fun k => some k ∈ R.fp b) w (w1.setCell ⟨b, 11, none⟩ (.slice (some ⟨g, 0, none⟩) (R.aside.length + 1) cap)) := by
  rw [bk_own] at hg
  have hbl : b < w.heap.size := h.eng.lt
  have hgs : g ≠ b := by
    intro e
    rcases hat with hat | hat
    · rw [bk_own] at hat
      exact h.dis.ne (i := 0) (j := 4) rfl rfl (by omega) (by rw [hat, e])
    · omega
  have K1 : Kept (fun k => bk R.da = some k) w w1 := ((Kept.refl (fun k => bk R.da = some k) w).below hb0).grown hg (fun k _ e => e)
  have B1 := h.but (j1 := 4) (j2 := 4) K1 rfl rfl (fun k e => Or.inl e)
  have K : Kept (fun k => bk R.da = some k ∨ k = b) w (w1.setCell ⟨b, 11, none⟩ (.slice (some ⟨g, 0, none⟩) (R.aside.length + 1) cap)) := (K1.mono (S' := fun k => bk R.da = some k ∨ k = b) (fun k _ e => Or.inl e)).setCell (fun _ => Or.inr rfl) _
  have B := h.but (j1 := 4) (j2 := 0) K rfl rfl (fun k e => e.imp id (fun e => by rw [e]))
  refine ⟨⟨?_, B.stp (by omega) (by omega), B.src (by omega) (by omega), B.all (by omega) (by omega), ?_, fun i r hr => B.mrk i r hr (by omega) (by omega), fun i r hr => B.sqs i r hr (by omega) (by omega), ?_⟩, K.mono (fun k _ e => ?_)⟩
  · have := (B1.eng (by omega) (by omega)).set 11 (.slice (some ⟨g, 0, none⟩) (R.aside.length + 1) cap)
    unfold Ref.vals Cfg.vals at *
    simpa using this
  · simp only [evs_snoc, List.length_append, List.length_cons, List.length_nil]
    exact (Row.other (a := some ⟨g, 0, none⟩) hown (by simp [bk]; exact hgs) _)
  · have e : ({ R with aside := R.aside ++ [x], da := some ⟨g, 0, none⟩, dc := cap } : Ref).fp b = (R.fp b).set 4 (some g) := rfl
    rw [e]
    exact h.dis.set (H := w.heap.size) h.fp_lt (by
      rcases app_at hat with e | ⟨k, e, hk⟩
      · exact Or.inl (by rw [← e]; rfl)
      · exact Or.inr ⟨k, e, by omega⟩)
  · rcases e with e | e
    · exact List.mem_of_getElem? (i := 4) (by rw [← e]; rfl)
    · subst e; simp [Ref.fp]

structure Evo (w : World) (b : Nat) (R : Ref) (w' : World) (R' : Ref) : Prop where
  mem : MemR w' b R'
  kept : Kept (fun k => some k ∈ R.fp b) w w'
  grow : ∀ k, some k ∈ R'.fp b → some k ∈ R.fp b ∨ w.heap.size ≤ k
theorem Evo.refl {w : World} {b : Nat} {R : Ref} (h : MemR w b R) : Evo w b R w R := ⟨h, Kept.refl _ w, fun k hk => Or.inl hk⟩
theorem Evo.trans {w w1 w2 : World} {b : Nat} {R R1 R2 : Ref} (h : Evo w b R w1 R1) (g : Evo w1 b R1 w2 R2) : Evo w b R w2 R2 := by
  refine ⟨g.mem, h.kept.trans' g.kept (fun i hi e => ?_), fun k hk => ?_⟩
  · rcases h.grow i e with e | e
    · exact e
    · omega
  · rcases g.grow k hk with e | e
    · exact h.grow k e
    · have := h.kept.size; right; omega
theorem Evo.below {w w' : World} {b : Nat} {R : Ref} (h : MemR w b R) (hb : Below w.heap.size w w') : Evo w b R w' R := ⟨h.below hb, below_kept hb _, fun k hk => Or.inl hk⟩
theorem MemR.setSrcE {w : World} {b : Nat} {R : Ref} {i : Nat} (h : MemR w b R) (r' : RSrc) (hi : i < R.srcs.length) (o : Nat) (ho : o < 5) (v : Value) (hv : r'.vals = R.srcs[i].vals.set o v)
    (hm : r'.marks = R.srcs[i].marks ∧ r'.ma = R.srcs[i].ma ∧ r'.mc = R.srcs[i].mc) (hq : r'.seqs = R.srcs[i].seqs ∧ r'.qa = R.srcs[i].qa ∧ r'.qc = R.srcs[i].qc) :
    Evo w b R (w.setCell ⟨R.sg, i * 5 + o, none⟩ v) { R with srcs := R.srcs.set i r' } := by
  refine ⟨(h.setSrc r' hi o ho v hv hm hq).1, (h.setSrc r' hi o ho v hv hm hq).2, fun k hk => Or.inl ?_⟩
  rwa [fp_set_src r' hi, hm.2.1, hq.2.1, set_self (fp_src hi).1, set_self (fp_src hi).2] at hk
theorem app_grow {w : World} {b : Nat} {R : Ref} {L : List (Option Nat)} {j g : Nat} {a : Option Addr} {n c : Nat} (hL : L = (R.fp b).set j (some g)) (hj : (R.fp b)[j]? = some (bk a)) (hat : (Value.slice a n c).ownBlock = some g ∨ g = w.heap.size + 1) :
    ∀ k, some k ∈ L → some k ∈ R.fp b ∨ w.heap.size ≤ k := by
  intro k hk
  rw [hL] at hk
  rcases List.mem_or_eq_of_mem_set hk with e | e
  · exact Or.inl e
  · simp only [Option.some.injEq] at e
    subst e
    rcases app_at hat with e | ⟨m, e, hm⟩
    · exact Or.inl (List.mem_of_getElem? (by rw [hj, e]))
    · simp only [Option.some.injEq] at e; right; omega
theorem MemR.appMarkE {w w1 : World} {b : Nat} {R : Ref} {i g cap : Nat} {x : Int} {w0 : World} (h : MemR w b R) (hb0 : Below w.heap.size w w0) (hi : i < R.srcs.length)
    (hown : w1.ownsRow 0 3 1 (.slice (some ⟨g, 0, none⟩) (R.srcs[i].marks.length + 1) cap) (R.srcs[i].marks.length + 1) (ints R.srcs[i].marks ++ [.int .i64 x]))
    (hg : w0.grownBy w1 (Value.slice R.srcs[i].ma R.srcs[i].marks.length R.srcs[i].mc).ownBlock) (hat : (Value.slice R.srcs[i].ma R.srcs[i].marks.length R.srcs[i].mc).ownBlock = some g ∨ g = w.heap.size + 1) :
    Evo w b R (w1.setCell ⟨R.sg, i * 5 + 2, none⟩ (.slice (some ⟨g, 0, none⟩) (R.srcs[i].marks.length + 1) cap)) { R with srcs := R.srcs.set i { R.srcs[i] with marks := R.srcs[i].marks ++ [x], ma := some ⟨g, 0, none⟩, mc := cap } } :=
  ⟨(h.appMark hb0 hi hown hg hat).1, (h.appMark hb0 hi hown hg hat).2, app_grow (by rw [fp_set_src _ hi]; simp only; rw [set_self (by rw [List.getElem?_set, if_neg (by omega)]; exact (fp_src hi).2)]; rfl) (fp_src hi).1 hat⟩
theorem MemR.appSeqE {w w1 : World} {b : Nat} {R : Ref} {i g cap : Nat} {x : Int} {w0 : World} (h : MemR w b R) (hb0 : Below w.heap.size w w0) (hi : i < R.srcs.length)
    (hown : w1.ownsRow 0 3 1 (.slice (some ⟨g, 0, none⟩) (R.srcs[i].seqs.length + 1) cap) (R.srcs[i].seqs.length + 1) (ints R.srcs[i].seqs ++ [.int .i64 x]))
    (hg : w0.grownBy w1 (Value.slice R.srcs[i].qa R.srcs[i].seqs.length R.srcs[i].qc).ownBlock) (hat : (Value.slice R.srcs[i].qa R.srcs[i].seqs.length R.srcs[i].qc).ownBlock = some g ∨ g = w.heap.size + 1) :
    Evo w b R (w1.setCell ⟨R.sg, i * 5 + 3, none⟩ (.slice (some ⟨g, 0, none⟩) (R.srcs[i].seqs.length + 1) cap)) { R with srcs := R.srcs.set i { R.srcs[i] with seqs := R.srcs[i].seqs ++ [x], qa := some ⟨g, 0, none⟩, qc := cap } } :=
  ⟨(h.appSeq hb0 hi hown hg hat).1, (h.appSeq hb0 hi hown hg hat).2, app_grow (by rw [fp_set_src _ hi]; simp only; rw [set_self (fp_src hi).1]; rfl) (fp_src hi).2 hat⟩
theorem MemR.appAllE {w w1 : World} {b : Nat} {R : Ref} {g cap : Nat} {x : Ev} {w0 : World} (h : MemR w b R) (hb0 : Below w.heap.size w w0)
    (hown : w1.ownsRow 0 30 5 (.slice (some ⟨g, 0, none⟩) (R.all.length + 1) cap) (R.all.length + 1) (evs R.all ++ x.vals))
    (hg : w0.grownBy w1 (Value.slice R.aa R.all.length R.ac).ownBlock) (hat : (Value.slice R.aa R.all.length R.ac).ownBlock = some g ∨ g = w.heap.size + 1) :
    Evo w b R (w1.setCell ⟨b, 10, none⟩ (.slice (some ⟨g, 0, none⟩) (R.all.length + 1) cap)) { R with all := R.all ++ [x], aa := some ⟨g, 0, none⟩, ac := cap } :=
  ⟨(h.appAll hb0 hown hg hat).1, (h.appAll hb0 hown hg hat).2, app_grow (j := 3) rfl rfl hat⟩
theorem MemR.appAsideE {w w1 : World} {b : Nat} {R : Ref} {g cap : Nat} {x : Ev} {w0 : World} (h : MemR w b R) (hb0 : Below w.heap.size w w0)
    (hown : w1.ownsRow 0 30 5 (.slice (some ⟨g, 0, none⟩) (R.aside.length + 1) cap) (R.aside.length + 1) (evs R.aside ++ x.vals))
    (hg : w0.grownBy w1 (Value.slice R.da R.aside.length R.dc).ownBlock) (hat : (Value.slice R.da R.aside.length R.dc).ownBlock = some g ∨ g = w.heap.size + 1) :
    Evo w b R (w1.setCell ⟨b, 11, none⟩ (.slice (some ⟨g, 0, none⟩) (R.aside.length + 1) cap)) { R with aside := R.aside ++ [x], da := some ⟨g, 0, none⟩, dc := cap } :=
  ⟨(h.appAside hb0 hown hg hat).1, (h.appAside hb0 hown hg hat).2, app_grow (j := 4) rfl rfl hat⟩
theorem settled_fp (R : Ref) (b : Nat) : R.settled.fp b = R.fp b := by
  unfold Ref.settled
  split
  · split <;> rfl
  · rfl
end Go.Proofs.YtghcololkgeoeabGreat
namespace Go.Proofs.YtghcololkgeoeabGreat
open Go.RowKit
set_option linter.unusedVariables false
set_option linter.unusedSimpArgs false
attribute [local go_sem ↓] Go.wp_at_zero Go.wp_at_succ

theorem tS {w w1 : World} {b : Nat} {R : Ref} {i g cap : Nat} {x : Value} {w0 : World} (h : MemR w b R) (hb0 : Below w.heap.size w w0) (hi : i < R.srcs.length)
    (hown : w1.ownsRow 0 3 1 (.slice (some ⟨g, 0, none⟩) (R.srcs[i].marks.length + 1) cap) (R.srcs[i].marks.length + 1) (ints R.srcs[i].marks ++ [x]))
    (hg : w0.grownBy w1 (Value.slice R.srcs[i].ma R.srcs[i].marks.length R.srcs[i].mc).ownBlock) (hat : (Value.slice R.srcs[i].ma R.srcs[i].marks.length R.srcs[i].mc).ownBlock = some g ∨ g = w.heap.size + 1) :
    Blk w1 b 58 R.vals ∧ w1.cell? ⟨R.sg, i * 5 + 2, none⟩ = some (.slice R.srcs[i].ma R.srcs[i].marks.length R.srcs[i].mc) ∧ w1.frozen? ⟨R.sg, i * 5 + 2, none⟩ = false ∧ Kept (fun k => some k ∈ R.fp b) w w1 := by
  rw [bk_own] at hg
  have K1 : Kept (fun k => bk R.srcs[i].ma = some k) w w1 := ((Kept.refl (fun k => bk R.srcs[i].ma = some k) w).below hb0).grown hg (fun k _ e => e)
  have B1 := h.but (j1 := 5 + 2 * i) (j2 := 5 + 2 * i) K1 (fp_src hi).1 (fp_src hi).1 (fun k e => Or.inl e)
  obtain ⟨g', hg', _, _, hc, hf⟩ := (B1.src (by omega) (by omega)).form (by omega)
  simp only [Option.some.injEq, Addr.mk.injEq, and_true] at hg'
  refine ⟨B1.eng (by omega) (by omega), ?_, ?_, K1.mono (fun k _ e => List.mem_of_getElem? ((fp_src hi).1.trans (by rw [e])))⟩
  · rw [hg', hc _ (by omega), flatMap_get _ 5 RSrc.len _ i 2 (by omega) hi]; rfl
  · rw [hg']; exact hf _
theorem tQ {w w1 : World} {b : Nat} {R : Ref} {i g cap : Nat} {x : Value} {w0 : World} (h : MemR w b R) (hb0 : Below w.heap.size w w0) (hi : i < R.srcs.length)
    (hown : w1.ownsRow 0 3 1 (.slice (some ⟨g, 0, none⟩) (R.srcs[i].seqs.length + 1) cap) (R.srcs[i].seqs.length + 1) (ints R.srcs[i].seqs ++ [x]))
    (hg : w0.grownBy w1 (Value.slice R.srcs[i].qa R.srcs[i].seqs.length R.srcs[i].qc).ownBlock) (hat : (Value.slice R.srcs[i].qa R.srcs[i].seqs.length R.srcs[i].qc).ownBlock = some g ∨ g = w.heap.size + 1) :
    Blk w1 b 58 R.vals ∧ w1.cell? ⟨R.sg, i * 5 + 3, none⟩ = some (.slice R.srcs[i].qa R.srcs[i].seqs.length R.srcs[i].qc) ∧ w1.frozen? ⟨R.sg, i * 5 + 3, none⟩ = false ∧ Kept (fun k => some k ∈ R.fp b) w w1 := by
  rw [bk_own] at hg
  have K1 : Kept (fun k => bk R.srcs[i].qa = some k) w w1 := ((Kept.refl (fun k => bk R.srcs[i].qa = some k) w).below hb0).grown hg (fun k _ e => e)
  have B1 := h.but (j1 := 6 + 2 * i) (j2 := 6 + 2 * i) K1 (fp_src hi).2 (fp_src hi).2 (fun k e => Or.inl e)
  obtain ⟨g', hg', _, _, hc, hf⟩ := (B1.src (by omega) (by omega)).form (by omega)
  simp only [Option.some.injEq, Addr.mk.injEq, and_true] at hg'
  refine ⟨B1.eng (by omega) (by omega), ?_, ?_, K1.mono (fun k _ e => List.mem_of_getElem? ((fp_src hi).2.trans (by rw [e])))⟩
  · rw [hg', hc _ (by omega), flatMap_get _ 5 RSrc.len _ i 3 (by omega) hi]; rfl
  · rw [hg']; exact hf _

set_option maxRecDepth 100000 in
set_option maxHeartbeats 4000000 in
theorem rtouch_any (b : Nat) (R : Ref) (i : Nat) (w : World) (hM : MemR w b R) (hi : i < R.srcs.length) (hml : R.srcs[i].marks.length ≤ 9000000000000) :
    Calls Tryz.prog 64 #[.pointer (some ⟨b, 0, none⟩), .int .i64 i] w fun e w' => e = .returned (.tuple #[]) ∧
      ∃ r' : RSrc, r' = { R.srcs[i] with sil := 0, marks := if R.isIdle i then R.srcs[i].marks ++ [R.merged] else R.srcs[i].marks, ma := r'.ma, mc := r'.mc } ∧
        Evo w b R w' { R with srcs := R.srcs.set i r' } := by
  obtain ⟨i0, hi0, hz0, hz1, hz2⟩ := info_parts Tryz.infoInt
  obtain ⟨_, c9, _, _, c12⟩ := hM.cells
  have s1 := hM.srcCell i 1 hi (by omega)
  have s2 := hM.srcCell i 2 hi (by omega)
  simp only [RSrc.vals, List.getElem?_cons_succ, List.getElem?_cons_zero] at s1 s2
  have f1 := hM.srcFrozen (i * 5 + 1) (by omega)
  have f2 := hM.srcFrozen (i * 5 + 2) (by omega)
  have hi' : (i : Int) < (R.srcs.length : Int) := by omega
  have hi00 : (0 : Int) ≤ (i : Int) := by omega
  have hsg : R.sg < w.heap.size := hM.src.lt (a := some ⟨R.sg, 0, none⟩) rfl
  have hbl : b < w.heap.size := hM.eng.lt
  cases hid : R.isIdle i with
  | false =>
    go_enter Tryz.func64, Tryz.ntmps64
    go_wp2_with (go_at_call 43; refine (ridle_any b R i _ hM hi).mono ?_; rintro e w' ⟨rfl, nq, rfl⟩; rw [hid])
    go_end0
    exact ⟨rfl, { R.srcs[i] with sil := 0 }, rfl, (Evo.below hM (bdrewN (Below.refl _ _) nq)).trans ((hM.drewN nq).setSrcE { R.srcs[i] with sil := 0 } hi 1 (by omega) (.int .i64 0) rfl ⟨rfl, rfl, rfl⟩ ⟨rfl, rfl, rfl⟩)⟩
  | true =>
    go_enter Tryz.func64, Tryz.ntmps64
    go_upto_region 2 with (go_at_call 43; refine (ridle_any b R i _ hM hi).mono ?_; rintro e wq ⟨rfl, nq, hq⟩; have HQ : Hid (wq = w.drewN nq) := hq; clear hq; rw [hid])
    have hMq : MemR wq b R := by rw [HQ.out]; exact hM.drewN nq
    have HKq : Hid (Evo w b R wq R) := by show Evo w b R wq R; rw [HQ.out]; exact Evo.below hM (bdrewN (Below.refl _ _) nq)
    clear HQ hM c9 c12 s1 s2 f1 f2 hsg hbl
    obtain ⟨_, c9, _, _, c12⟩ := hMq.cells
    have s1 := hMq.srcCell i 1 hi (by omega)
    have s2 := hMq.srcCell i 2 hi (by omega)
    simp only [RSrc.vals, List.getElem?_cons_succ, List.getElem?_cons_zero] at s1 s2
    have HM : Hid (Row wq 3 1 R.srcs[i].ma R.srcs[i].marks.length R.srcs[i].mc (ints R.srcs[i].marks)) := hMq.mrk i _ (List.getElem?_eq_getElem hi)
    have HH : Hid (MemR wq b R) := hMq
    clear hMq
    refine upTo_region (fun u => u.cell? ⟨b, 9, none⟩ = some (.slice (some ⟨R.sg, 0, none⟩) R.srcs.length R.sc) ∧ u.cell? ⟨b, 12, none⟩ = some (.int .i64 R.merged) ∧ u.cell? ⟨R.sg, i * 5 + 2, none⟩ = some (.slice R.srcs[i].ma R.srcs[i].marks.length R.srcs[i].mc)) 21 22 rfl (by kernel_rfl) ?_
    have hS0 : (fun u : World => u.cell? ⟨b, 9, none⟩ = some (.slice (some ⟨R.sg, 0, none⟩) R.srcs.length R.sc) ∧ u.cell? ⟨b, 12, none⟩ = some (.int .i64 R.merged) ∧ u.cell? ⟨R.sg, i * 5 + 2, none⟩ = some (.slice R.srcs[i].ma R.srcs[i].marks.length R.srcs[i].mc)) wq.drew := ⟨c9, c12, s2⟩
    refine upTo_tk (i := 0) (v := ?v2_0) rfl (by kernel_rfl) (fun _ _ _ h => h) (by rfl) hS0 ?h2_0 ?r2_0
    case h2_0 => (intro u hu; (try dsimp only at hu); go_simp; first | done | with_reducible rfl)
    (try simp only [Act.put, tkS])
    refine upTo_tk (i := 1) (v := ?v2_1) rfl (by kernel_rfl) (fun _ _ _ h => h) (by rfl) hS0 ?h2_1 ?r2_1
    case h2_1 => (intro u hu; (try dsimp only at hu); go_simp; first | done | with_reducible rfl)
    (try simp only [Act.put, tkS])
    refine upTo_tk (i := 2) (v := ?v2_2) rfl (by kernel_rfl) (fun _ _ _ h => h) (by rfl) hS0 ?h2_2 ?r2_2
    case h2_2 => (intro u hu; (try dsimp only at hu); go_simp; first | done | with_reducible rfl)
    (try simp only [Act.put, tkS])
    refine upTo_tk (i := 3) (v := ?v2_3) rfl (by kernel_rfl) (fun _ _ _ h => h) (by rfl) hS0 ?h2_3 ?r2_3
    case h2_3 => (intro u hu; (try dsimp only at hu); go_simp; first | done | with_reducible rfl)
    (try simp only [Act.put, tkS])
    refine upTo_tk (i := 4) (v := ?v2_4) rfl (by kernel_rfl) (fun _ _ _ h => h) (by rfl) hS0 ?h2_4 ?r2_4
    case h2_4 => (intro u hu; (try dsimp only at hu); go_simp; first | done | with_reducible rfl)
    (try simp only [Act.put, tkS])
    refine upTo_tk (i := 5) (v := ?v2_5) rfl (by kernel_rfl) (fun _ _ _ h => h) (by rfl) hS0 ?h2_5 ?r2_5
    case h2_5 => (intro u hu; (try dsimp only at hu); go_simp; first | done | with_reducible rfl)
    (try simp only [Act.put, tkS])
    refine upTo_tk (i := 6) (v := ?v2_6) rfl (by kernel_rfl) (fun _ _ _ h => h) (by rfl) hS0 ?h2_6 ?r2_6
    case h2_6 => (intro u hu; (try dsimp only at hu); go_simp; first | done | with_reducible rfl)
    (try simp only [Act.put, tkS])
    refine upTo_tk (i := 7) (v := ?v2_7) rfl (by kernel_rfl) (fun _ _ _ h => h) (by rfl) hS0 ?h2_7 ?r2_7
    case h2_7 => (intro u hu; (try dsimp only at hu); go_simp; first | done | with_reducible rfl)
    (try simp only [Act.put, tkS])
    refine upTo_tk (i := 8) (v := ?v2_8) rfl (by kernel_rfl) (fun _ _ _ h => h) (by rfl) hS0 ?h2_8 ?r2_8
    case h2_8 => (intro u hu; (try dsimp only at hu); go_simp; first | done | with_reducible rfl)
    (try simp only [Act.put, tkS])
    refine upTo_tk (i := 9) (v := ?v2_9) rfl (by kernel_rfl) (fun _ _ _ h => h) (by rfl) hS0 ?h2_9 ?r2_9
    case h2_9 => (intro u hu; (try dsimp only at hu); go_simp; first | done | with_reducible rfl)
    (try simp only [Act.put, tkS])
    refine upTo_tk (i := 10) (v := ?v2_10) rfl (by kernel_rfl) (fun _ _ _ h => h) (by rfl) hS0 ?h2_10 ?r2_10
    case h2_10 => (intro u hu; (try dsimp only at hu); go_simp; first | done | with_reducible rfl)
    (try simp only [Act.put, tkS])
    refine upTo_tk (i := 11) (v := ?v2_11) rfl (by kernel_rfl) (fun _ _ _ h => h) (by rfl) hS0 ?h2_11 ?r2_11
    case h2_11 => (intro u hu; (try dsimp only at hu); go_simp; first | done | with_reducible rfl)
    (try simp only [Act.put, tkS])
    refine upTo_tk (i := 12) (v := ?v2_12) rfl (by kernel_rfl) (fun _ _ _ h => h) (by rfl) hS0 ?h2_12 ?r2_12
    case h2_12 => (intro u hu; (try dsimp only at hu); go_simp; first | done | with_reducible rfl)
    (try simp only [Act.put, tkS])
    refine upTo_tk (i := 13) (v := ?v2_13) rfl (by kernel_rfl) (fun _ _ _ h => h) (by rfl) hS0 ?h2_13 ?r2_13
    case h2_13 => (intro u hu; (try dsimp only at hu); go_simp; first | done | with_reducible rfl)
    (try simp only [Act.put, tkS])
    refine upTo_tk (i := 14) (v := ?v2_14) rfl (by kernel_rfl) (fun _ _ _ h => h) (by rfl) hS0 ?h2_14 ?r2_14
    case h2_14 => (intro u hu; (try dsimp only at hu); go_simp; first | done | with_reducible rfl)
    (try simp only [Act.put, tkS])
    refine upTo_tk (i := 15) (v := ?v2_15) rfl (by kernel_rfl) (fun _ _ _ h => h) (by rfl) hS0 ?h2_15 ?r2_15
    case h2_15 => (intro u hu; (try dsimp only at hu); go_simp; first | done | with_reducible rfl)
    (try simp only [Act.put, tkS])
    refine upTo_tk (i := 16) (v := ?v2_16) rfl (by kernel_rfl) (fun _ _ _ h => h) (by rfl) hS0 ?h2_16 ?r2_16
    case h2_16 => (intro u hu; (try dsimp only at hu); go_simp; first | done | with_reducible rfl)
    (try simp only [Act.put, tkS])
    refine upTo_one (i := 17) (by kernel_rfl) rfl (fun K hK => ?_)
    go_simp
    refine hK.out _ _ (fun _ => ⟨(HH.out.alloc _).cells.2.1, (HH.out.alloc _).cells.2.2.2.2, by have := (HH.out.alloc (.cells #[.int .i64 R.merged] 3)).srcCell i 2 hi (by omega); simpa [RSrc.vals] using this⟩) ?_
    clear hK K
    (try simp only [Act.put, tkS])
    refine upTo_one (i := 18) (by kernel_rfl) rfl (fun K hK => ?_)
    refine step_append_lies _ (by rfl) _ _ _ (by rfl) 0 3 i0 _ 1 8 Tryz.underlying36 hi0 hz0 hz1 hz2 rfl (by omega) (.slice R.srcs[i].ma R.srcs[i].marks.length R.srcs[i].mc) R.srcs[i].marks.length (ints R.srcs[i].marks) (by rfl) (ownsRow_of_heap HM.out (fun k hk => Below.heap_alloc _ _ _ hk))
      ⟨wq.heap.size, 0, none⟩ 1 1 [.int .i64 R.merged] (by rfl) (by rfl) (World.news_of_block (cs := #[.int .i64 R.merged]) (t := 3) (fr := (0, 0)) (heap_alloc_new wq _)) (by simp [Value.oneCell'])
      (by omega) (by unfold maxLen; omega) (by omega) (by omega) (wq.heap.size + 1) (by simp) ?_
    intro gg cap w1 hown1 hgrow hat hlt1
    have hb0 : Below wq.heap.size wq (wq.alloc (.cells #[.int .i64 R.merged] 3)).drew := ((Below.refl _ wq).alloc (Nat.le_refl _) _).drew
    obtain ⟨q0, q3, q4, qk⟩ := tS HH.out hb0 hi hown1 hgrow hat
    have q1 := q0.cell 9
    have q2 := q0.cell 12
    refine hK.out _ _ (fun _ => ⟨q1, q2, q3⟩) ?_
    clear hK K hS0
    (try simp only [Act.put, tkS])
    refine upTo_one (i := 19) (by kernel_rfl) rfl (fun K hK => ?_)
    go_simp
    refine hK.out _ _ (fun _ => ⟨q1, q2, q3⟩) ?_
    clear hK K
    (try simp only [Act.put, tkS])
    refine upTo_one (i := 20) (by kernel_rfl) rfl (fun K hK => ?_)
    go_simp
    refine hK.out _ _ (fun _ => ⟨q1, q2, q3⟩) ?_
    clear hK K
    (try simp only [Act.put, tkS])
    refine upTo_one (i := 21) (by kernel_rfl) rfl (fun K hK => ?_)
    go_simp
    refine hK.out _ _ (fun h => absurd rfl h) ?_
    clear hK K
    (try simp only [Act.put, tkS])
    refine upTo_done (by kernel_rfl) ?_
    have HE2 : Hid (Evo wq b R (w1.setCell ⟨R.sg, i * 5 + 2, none⟩ (.slice (some ⟨gg, 0, none⟩) (R.srcs[i].marks.length + 1) cap)) { R with srcs := R.srcs.set i { R.srcs[i] with marks := R.srcs[i].marks ++ [R.merged], ma := some ⟨gg, 0, none⟩, mc := cap } }) := HH.out.appMarkE hb0 hi hown1 hgrow hat
    clear q0 qk q1 q2 q3 q4 c9 c12 s1 s2
    generalize w1.setCell ⟨R.sg, i * 5 + 2, none⟩ (.slice (some ⟨gg, 0, none⟩) (R.srcs[i].marks.length + 1) cap) = wz at *
    have hi2 : i < (R.srcs.set i { R.srcs[i] with marks := R.srcs[i].marks ++ [R.merged], ma := some ⟨gg, 0, none⟩, mc := cap }).length := by rw [List.length_set]; exact hi
    obtain ⟨_, c9, _, _, c12⟩ := HE2.out.mem.cells
    have s1 := HE2.out.mem.srcCell i 1 hi2 (by omega)
    have f1 := HE2.out.mem.srcFrozen (i * 5 + 1) (Nat.lt_of_le_of_lt (Nat.zero_le _) hi2)
    simp only [RSrc.vals, List.getElem?_cons_succ, List.getElem?_cons_zero, List.getElem_set_self, List.length_set] at s1 f1 c9
    go_wp2
    go_end0
    have := HE2.out.mem.setSrcE (i := i) { R.srcs[i] with sil := 0, marks := R.srcs[i].marks ++ [R.merged], ma := some ⟨gg, 0, none⟩, mc := cap } hi2 1 (by omega) (.int .i64 0) (by simp [RSrc.vals]) (by simp) (by simp)
    simp only [List.set_set] at this
    exact ⟨rfl, { R.srcs[i] with sil := 0, marks := R.srcs[i].marks ++ [R.merged], ma := some ⟨gg, 0, none⟩, mc := cap }, rfl, (HKq.out.trans HE2.out).trans this⟩
end Go.Proofs.YtghcololkgeoeabGreat
