import Derived.Test.YthiabdpgieppoaaGreatRefB
namespace Go.Proofs.YthiabdpgieppoaaGreat
open Go.RowKit
set_option linter.unusedVariables false
set_option linter.unusedSimpArgs false

theorem toRow {w : World} {base : Nat} {t : TypeId} {sz : Nat} {a : Option Addr} {n c : Nat} {xs : List Value} (h : w.ownsRow base t sz (.slice a n c) n xs) : Row w t sz a n c xs := by
  obtain ⟨h1, h2⟩ := h
  refine ⟨h1, ?_⟩
  rcases h2 with h2 | ⟨g, cap, cur, hv, hg, r⟩
  · exact Or.inl h2
  · exact Or.inr ⟨g, cap, cur, hv, Nat.zero_le _, r⟩
theorem MemR.setMerged {w : World} {b : Nat} {R : Ref} (h : MemR w b R) (m : Int) : MemR (w.setCell ⟨b, 12, none⟩ (.int .i64 m)) b { R with merged := m } := by
  have d : ∀ i o k, (R.fp b)[i]? = some o → i ≠ 0 → o = some k → k ≠ b := fun i o k hi h0 e f => by
    subst f; subst e
    exact h0 (h.dis i 0 k hi rfl)
  have K : Kept (fun k => k = b) w (w.setCell ⟨b, 12, none⟩ (.int .i64 m)) := (Kept.refl (fun k => k = b) w).setCell (fun _ => rfl) _
  refine ⟨?_, h.stp.kept K (fun k e => d 1 _ k rfl (by omega) e), h.src.kept K (fun k e => d 2 _ k rfl (by omega) e), h.all.kept K (fun k e => d 3 _ k rfl (by omega) e), h.asd.kept K (fun k e => d 4 _ k rfl (by omega) e), ?_, ?_, h.dis⟩
  · exact h.eng.set 12 _
  · intro i r hr
    obtain ⟨hi, rfl⟩ := List.getElem?_eq_some_iff.1 hr
    exact (h.mrk i _ hr).kept K (fun k e => d _ _ k (fp_src hi).1 (by omega) e)
  · intro i r hr
    obtain ⟨hi, rfl⟩ := List.getElem?_eq_some_iff.1 hr
    exact (h.sqs i _ hr).kept K (fun k e => d _ _ k (fp_src hi).2 (by omega) e)

/-- the least mark of the active ones among the first k sources -/
def Ref.active (R : Ref) (i : Nat) : Bool := (match R.srcs[i]? with | some r => r.inn | none => false) && !R.isIdle i
def Ref.leastOf (R : Ref) : Nat → Option Int
  | 0 => none
  | k + 1 => if R.active k then (match R.leastOf k with | none => some (R.mark k) | some m => if R.mark k < m then some (R.mark k) else some m) else R.leastOf k
/-- one more than the greatest time -/
def topOf (l : List Ev) : Option Int := l.foldl (fun o e => match o with | none => some (e.ts + 1) | some m => if m < e.ts + 1 then some (e.ts + 1) else some m) none
theorem topOf_snoc (l : List Ev) (e : Ev) : topOf (l ++ [e]) = match topOf l with | none => some (e.ts + 1) | some m => if m < e.ts + 1 then some (e.ts + 1) else some m := by
  unfold topOf; rw [List.foldl_append]; rfl
theorem topOf_none (l : List Ev) : topOf l = none ↔ l = [] := by
  constructor
  · intro h
    rcases List.eq_nil_or_concat l with e | ⟨L, x, e⟩
    · exact e
    · rw [e, List.concat_eq_append, topOf_snoc] at h
      split at h
      · simp at h
      · split at h <;> simp at h
  · rintro rfl; rfl
def Ref.aim (R : Ref) : Option Int := if (R.leastOf R.srcs.length).isSome then R.leastOf R.srcs.length else topOf (R.wait (-1))
def Ref.settled (R : Ref) : Ref := match R.aim with | some m => if R.merged < m then { R with merged := m } else R | none => R

theorem Ref.active_eq {R : Ref} {i : Nat} (hi : i < R.srcs.length) : R.active i = (R.srcs[i].inn && !R.isIdle i) := by simp [Ref.active, List.getElem?_eq_getElem hi]

set_option maxRecDepth 100000 in
set_option maxHeartbeats 4000000 in
theorem rsettle_any (b : Nat) (R : Ref) (w : World) (h : MemR w b R) (hall : R.all.length ≤ 1000) (hn : R.srcs.length ≤ 6) (hts : ∀ e ∈ R.all, -4398046511104 ≤ e.ts ∧ e.ts ≤ 4398046511104) :
    Calls Tryz.prog 40 #[.pointer (some ⟨b, 0, none⟩)] w fun e w' => e = .returned (.tuple #[]) ∧ MemR w' b R.settled ∧ Kept (fun k => k = b) w w' := by
  go_enter Tryz.func40, Tryz.ntmps40
  go_wp2
  go_loopw [2, 3, 4] (fun l so i wr => ∃ (k : Nat), k ≤ R.srcs.length ∧ i = .int .i64 k ∧ l = .int .i64 ((R.leastOf k).getD 0) ∧ so = .bool (R.leastOf k).isSome ∧ Below w.heap.size w wr) (fun _ _ i _ => R.srcs.length - (intOf i).toNat)
  case atStart => exact ⟨0, Nat.zero_le _, rfl, rfl, rfl, Below.refl _ _⟩
  case round =>
    obtain ⟨k, hk, rfl, rfl, rfl, hbel⟩ := hrel
    have hR := h.below hbel
    obtain ⟨_, c9, _, _, _⟩ := hR.cells
    by_cases hlt : k < R.srcs.length
    · have hlt' : (k : Int) < (R.srcs.length : Int) := by omega
      have hk0 : (0 : Int) ≤ (k : Int) := by omega
      have s0 := hR.srcCell k 0 hlt (by omega)
      simp only [RSrc.vals, List.getElem?_cons_zero, Nat.add_zero] at s0
      have HA : Hid (R.active k = (R.srcs[k].inn && !R.isIdle k)) := Ref.active_eq hlt
      have HL : Hid (R.leastOf (k + 1) = if R.active k then (match R.leastOf k with | none => some (R.mark k) | some m => if R.mark k < m then some (R.mark k) else some m) else R.leastOf k) := rfl
      have HR : Hid (MemR wr b R) := hR
      clear hR
      generalize hin : R.srcs[k].inn = inn at *
      generalize hid : R.isIdle k = idl at *
      cases inn with
      | false =>
        have HN : Hid (R.leastOf (k + 1) = R.leastOf k) := by show _ = _; rw [HL.out, HA.out]; simp
        go_wp2_with (go_at_call 51; refine (ridle_any b R k _ HR.out hlt).mono ?_; rintro e w' ⟨rfl, nq, rfl⟩)
        go_roundw
        case rel => exact ⟨k + 1, by omega, by go_num, by rw [HN.out], by rw [HN.out], bdrewN hbel _⟩
        case measure => simp [intOf]; omega
      | true =>
        cases idl with
        | true =>
          have HN : Hid (R.leastOf (k + 1) = R.leastOf k) := by show _ = _; rw [HL.out, HA.out]; simp
          go_wp2_with (go_at_call 51; refine (ridle_any b R k _ HR.out hlt).mono ?_; rintro e w' ⟨rfl, nq, rfl⟩; rw [hid])
          go_roundw
          case rel => exact ⟨k + 1, by omega, by go_num, by rw [HN.out], by rw [HN.out], bdrewN hbel _⟩
          case measure => simp [intOf]; omega
        | false =>
          cases hl : R.leastOf k with
          | none =>
            have HN : Hid (R.leastOf (k + 1) = some (R.mark k)) := by show _ = _; rw [HL.out, HA.out, hl]; simp
            go_wp2_with (first
              | (go_at_call 51; refine (ridle_any b R k _ HR.out hlt).mono ?_; rintro e w' ⟨rfl, nq, rfl⟩; rw [hid])
              | (go_at_call 50; refine (rmark_any b R k _ (HR.out.drewN _) hlt).mono ?_; rintro e w' ⟨rfl, rfl⟩))
            go_roundw
            case rel => exact ⟨k + 1, by omega, by go_num, by rw [HN.out]; rfl, by rw [HN.out]; rfl, bdrewN hbel _⟩
            case measure => simp [intOf]; omega
          | some m =>
            by_cases hm : R.mark k < m
            · have HN : Hid (R.leastOf (k + 1) = some (R.mark k)) := by show _ = _; rw [HL.out, HA.out, hl]; simp [hm]
              go_wp2_with (first
                | (go_at_call 51; refine (ridle_any b R k _ HR.out hlt).mono ?_; rintro e w' ⟨rfl, nq, rfl⟩; rw [hid])
                | (go_at_call 50; refine (rmark_any b R k _ (HR.out.drewN _) hlt).mono ?_; rintro e w' ⟨rfl, rfl⟩))
              go_roundw
              case rel => exact ⟨k + 1, by omega, by go_num, by rw [HN.out]; rfl, by rw [HN.out]; rfl, bdrewN hbel _⟩
              case measure => simp [intOf]; omega
            · have HN : Hid (R.leastOf (k + 1) = some m) := by show _ = _; rw [HL.out, HA.out, hl]; simp [hm]
              have hd : decide (R.mark k < m) = false := by simpa using hm
              go_wp2_with (first
                | (go_at_call 51; refine (ridle_any b R k _ HR.out hlt).mono ?_; rintro e w' ⟨rfl, nq, rfl⟩; rw [hid])
                | (go_at_call 50; refine (rmark_any b R k _ (HR.out.drewN _) hlt).mono ?_; rintro e w' ⟨rfl, rfl⟩))
              go_roundw
              case rel => exact ⟨k + 1, by omega, by go_num, by rw [HN.out]; rfl, by rw [HN.out]; rfl, bdrewN hbel _⟩
              case measure => simp [intOf]; omega
    · obtain rfl : k = R.srcs.length := by omega
      have HR : Hid (MemR wr b R) := hR
      clear hR
      go_wp2_with (go_at_call 52; refine (rwaiting_any b R (-1) _ HR.out hall).mono ?_; rintro e w2 ⟨a, c, rfl, hown, hb2⟩)
      have hR2 := HR.out.below hb2
      obtain ⟨_, _, _, _, c12⟩ := hR2.cells
      have f12 := hR2.eng.frozen 12
      have hK : Hid (Kept (fun k => k = b) w w2) := ((Kept.refl (fun k => k = b) w).trans (below_kept (hbel.trans (hb2.mono hbel.size)) _))
      have HR2 : Hid (MemR w2 b R) := hR2
      clear hR2
      cases hl : R.leastOf R.srcs.length with
      | some m =>
        have HA : Hid (R.aim = some m) := by show _ = _; simp [Ref.aim, hl]
        refine wp_loop_rounds 1 ?_
        rw [rounds_succ]
        by_cases hw0 : (0 : Int) < ((R.wait (-1)).length : Int)
        all_goals
          by_cases hm : R.merged < m
          · have HS : Hid (R.settled = { R with merged := m }) := by show _ = _; simp [Ref.settled, HA.out, hm]
            go_wp2
            go_end0
            exact ⟨rfl, by rw [HS.out]; exact HR2.out.setMerged m, hK.out.setCell (fun _ => rfl) _⟩
          · have HS : Hid (R.settled = R) := by show _ = _; simp [Ref.settled, HA.out, hm]
            have hd : decide (R.merged < m) = false := by simpa using hm
            go_wp2
            go_end0
            exact ⟨rfl, by rw [HS.out]; exact HR2.out, hK.out⟩
      | none =>
        have HA : Hid (R.aim = topOf (R.wait (-1))) := by show _ = _; simp [Ref.aim, hl]
        have hwl : (R.wait (-1)).length ≤ 1000 := by
          have := List.length_filter_le (waits R.merged (-1)) R.all
          unfold Ref.wait; omega
        have hwt : Hid (∀ e ∈ R.wait (-1), -4398046511104 ≤ e.ts ∧ e.ts ≤ 4398046511104) := fun e he => hts e (List.mem_filter.1 he).1
        have HO : Hid (w2.ownsRow wr.heap.size 32 5 (.slice a (R.wait (-1)).length c) (R.wait (-1)).length (evs (R.wait (-1)))) := hown
        clear hown
        generalize R.wait (-1) = W at *
        go_loopw [2, 8] (fun l i wx => ∃ k : Nat, k ≤ W.length ∧ i = .int .i64 k ∧ l = .int .i64 ((topOf (W.take k)).getD 0) ∧ wx = w2) (fun _ i _ => W.length - (intOf i).toNat)
        case atStart => exact ⟨0, Nat.zero_le _, rfl, by simp [topOf], rfl⟩
        case round =>
          obtain ⟨k, hk, rfl, rfl, rfl⟩ := hrel
          by_cases hlt : k < W.length
          · have hlt' : (k : Int) < (W.length : Int) := by omega
            have hk0 : (0 : Int) ≤ (k : Int) := by omega
            obtain ⟨g, rfl, hnc, _, _, e2, _⟩ := evRow_cells (toRow HO.out) k hlt
            have hb := hwt.out W[k] (List.getElem_mem hlt)
            have HT : Hid (topOf (W.take (k + 1)) = match topOf (W.take k) with | none => some (W[k].ts + 1) | some m => if m < W[k].ts + 1 then some (W[k].ts + 1) else some m) := by show _ = _; rw [take_succ' W k hlt, topOf_snoc]
            have HK : Hid (k = 0 ↔ topOf (W.take k) = none) := by
              show _ ↔ _
              rw [topOf_none, List.take_eq_nil_iff]
              constructor
              · exact Or.inl
              · rintro (e | e)
                · exact e
                · rw [e] at hlt; simp at hlt
            obtain ⟨hb1, hb2'⟩ := hb
            by_cases hz : k = 0
            · have HN : Hid (topOf (W.take (k + 1)) = some (W[k].ts + 1)) := by show _ = _; rw [HT.out, HK.out.1 hz]
              have hz' : ((k : Int) == 0) = true := by simp [hz]
              have HZ : Hid (k = 0) := hz
              clear hz
              go_wp2
              go_roundw
              case rel => exact ⟨k + 1, by omega, by go_num, by rw [HN.out]; go_num, trivial⟩
              case measure => simp [intOf]; omega
            · have hz' : ((k : Int) == 0) = false := by simp; omega
              cases ht : topOf (W.take k) with
              | none => exact absurd (HK.out.2 ht) hz
              | some m =>
                by_cases hm : m < W[k].ts + 1
                · have HN : Hid (topOf (W.take (k + 1)) = some (W[k].ts + 1)) := by show _ = _; rw [HT.out, ht]; simp [hm]
                  go_wp2
                  go_roundw
                  case rel => exact ⟨k + 1, by omega, by go_num, by rw [HN.out]; go_num, trivial⟩
                  case measure => simp [intOf]; omega
                · have HN : Hid (topOf (W.take (k + 1)) = some m) := by show _ = _; rw [HT.out, ht]; simp [hm]
                  go_wp2
                  go_roundw
                  case rel => exact ⟨k + 1, by omega, by go_num, by rw [HN.out] <;> rfl, trivial⟩
                  case measure => simp [intOf]; omega
          · have hall' : W.take k = W := List.take_of_length_le (by omega)
            rw [hall']
            cases ht : topOf W with
            | none =>
              have hW : W = [] := (topOf_none W).1 ht
              have HS : Hid (R.settled = R) := by show _ = _; simp [Ref.settled, HA.out, ht]
              have hw0 : ¬ (0 : Int) < (W.length : Int) := by simp [hW]
              go_wp2
              go_end0
              exact ⟨rfl, by rw [HS.out]; exact HR2.out, hK.out⟩
            | some m =>
              have hw0 : (0 : Int) < (W.length : Int) := by
                cases W with
                | nil => simp [topOf] at ht
                | cons x l => simp
              by_cases hm : R.merged < m
              · have HS : Hid (R.settled = { R with merged := m }) := by show _ = _; simp [Ref.settled, HA.out, ht, hm]
                go_wp2
                go_end0
                exact ⟨rfl, by rw [HS.out]; exact HR2.out.setMerged m, hK.out.setCell (fun _ => rfl) _⟩
              · have HS : Hid (R.settled = R) := by show _ = _; simp [Ref.settled, HA.out, ht, hm]
                have hd : decide (R.merged < m) = false := by simpa using hm
                go_wp2
                go_end0
                exact ⟨rfl, by rw [HS.out]; exact HR2.out, hK.out⟩
end Go.Proofs.YthiabdpgieppoaaGreat
