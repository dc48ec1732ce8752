import Derived.Test.YtghcololkgeoeabDoorPartN5
import Derived.Test.YtghcololkgeoeabDoorPartK1
import Derived.Test.YtghcololkgeoeabDoorPartK7
import Derived.Test.YtghcololkgeoeabDoorPartA0
import Derived.Test.YtghcololkgeoeabDoorPartN2
import Derived.Test.YtghcololkgeoeabDoorPartK4
import Derived.Test.YtghcololkgeoeabDoorPartL0
namespace Go.Proofs.YtghcololkgeoeabDoor
open Go.RowKit
set_option linter.unusedVariables false
set_option linter.unusedSimpArgs false
attribute [local go_sem ↓] Go.wp_at_zero Go.wp_at_succ

theorem patPairs_kd (raw : Int) (k : Nat) (hk : k < patN raw) : (patKinds raw)[k]? = some ((⟨patPairs raw, patIsOne raw, patWindow raw⟩ : Pq).kd k) ∧ (patNots raw)[k]? = some ((⟨patPairs raw, patIsOne raw, patWindow raw⟩ : Pq).nt k) := by
  have h1 : (patKinds raw).length = patN raw := (patAt_len _ _).1
  have h2 : (patNots raw).length = patN raw := (patAt_len _ _).2
  unfold Pq.kd Pq.nt
  show _ = some (((patPairs raw)[k]?.getD (0, 0)).1) ∧ _ = some (((patPairs raw)[k]?.getD (0, 0)).2)
  have e : (patPairs raw)[k]? = some ((patKinds raw)[k]'(by omega), (patNots raw)[k]'(by omega)) := by
    unfold patPairs
    rw [List.getElem?_zip_eq_some]
    exact ⟨List.getElem?_eq_getElem _, List.getElem?_eq_getElem _⟩
  rw [e]
  exact ⟨List.getElem?_eq_getElem _, List.getElem?_eq_getElem _⟩
theorem num_row {w : World} {a : Option Addr} {n c : Nat} {f : Nat → Int} {l : List Int} (h : Row w 3 1 a n c (ints l)) (hf : ∀ k, k < n → l[k]? = some (f k)) : NumR w a n f := by
  intro k hk
  obtain ⟨g, hg, _, _, hc, _⟩ := h.form (by omega)
  refine ⟨g, hg, h.lt (by rw [hg]; rfl), ?_⟩
  rw [hc k (by omega)]
  unfold ints
  rw [List.getElem?_map, hf k hk]; rfl
theorem PatOut.nums {raw : Int} {w w' : World} {ka : Option Addr} {kc : Nat} {na : Option Addr} {nc : Nat} (h : PatOut raw w w' ka kc na nc) : NumR w' ka (patN raw) (⟨patPairs raw, patIsOne raw, patWindow raw⟩ : Pq).kd ∧ NumR w' na (patN raw) (⟨patPairs raw, patIsOne raw, patWindow raw⟩ : Pq).nt :=
  ⟨num_row h.rk (fun k hk => (patPairs_kd raw k hk).1), num_row h.rn (fun k hk => (patPairs_kd raw k hk).2)⟩
theorem cfg_find (r : RawC) (l : List Ev) : r.cfg.pq.findL l = ((⟨patPairs r.pattern, patIsOne r.pattern, patWindow r.pattern⟩ : Pq)).findL l := by
  have h := patText_steps r.pattern
  by_cases hz : patN r.pattern = 0
  · have e1 : r.cfg.pq.st.length = 0 := by show (patSteps (patText r.pattern)).length = 0; rw [h.2.1, patPairs_len]; exact hz
    have e2 : ((⟨patPairs r.pattern, patIsOne r.pattern, patWindow r.pattern⟩ : Pq)).st.length = 0 := by show (patPairs r.pattern).length = 0; rw [patPairs_len]; exact hz
    unfold Pq.findL
    rw [if_pos e1, if_pos e2]
  · have e : r.cfg.pq = (⟨patPairs r.pattern, patIsOne r.pattern, patWindow r.pattern⟩ : Pq) := by
      show (⟨patSteps (patText r.pattern), patOne (patText r.pattern), patWin (patText r.pattern)⟩ : Pq) = _
      rw [h.2.1, (h.2.2 hz).1, (h.2.2 hz).2]
    rw [e]
theorem pat_nt0 (raw : Int) : (⟨patPairs raw, patIsOne raw, patWindow raw⟩ : Pq).nt 0 = 0 := by
  unfold Pq.nt
  show ((patPairs raw)[0]?.getD (0, 0)).2 = 0
  cases h : (patPairs raw)[0]? with
  | none => rfl
  | some p => exact patPairs_head raw p (by rw [List.head?_eq_getElem?]; exact h)
theorem pat_win0 (raw : Int) : 0 ≤ patWindow raw := by
  unfold patWindow patRest
  have := (patAt_pos (k0 := patK0 raw) (by unfold patK0; have := pk_range (c := raw) (n := 1125899906842624) (by omega); omega) (patN raw)).1
  split <;> omega
set_option maxRecDepth 100000 in
set_option maxHeartbeats 4000000 in
theorem found_true (b : Nat) (r : RawC) (raw : Int) (X : Eng) (ka : Option Addr) (kc : Nat) (na : Option Addr) (nc : Nat) (w : World) (h : MemX w b X) (hr : r.pattern = raw) (hc : X.c = r.cfg) (hl : X.log.length ≤ 1000) (hts : TsOk X.log) (hkn : ∀ e ∈ X.log, e.kind ≠ 0) (hnk : NumR w ka (patN raw) (⟨patPairs raw, patIsOne raw, patWindow raw⟩ : Pq).kd) (hnn : NumR w na (patN raw) (⟨patPairs raw, patIsOne raw, patWindow raw⟩ : Pq).nt) :
    Calls Tryd.prog 12 #[.pointer (some ⟨b, 0, none⟩), .agg #[.slice ka (patN raw) kc, .slice na (patN raw) nc, .bool (patIsOne raw), .int .i64 (patWindow raw)]] w fun e w' => e = .returned (.bool true) ∧ Below w.heap.size w w' := by
  have h3 : patN raw ≤ 3 := by unfold patN; omega
  obtain ⟨w1, HW1⟩ := hex (w.alloc (.cells #[.slice ka (patN raw) kc, .slice na (patN raw) nc, .bool (patIsOne raw), .int .i64 (patWindow raw)] 30))
  obtain ⟨pb, HPb⟩ := hex w.heap.size
  have HP1 : Hid (Blk w1 pb 30 [.slice ka (patN raw) kc, .slice na (patN raw) nc, .bool (patIsOne raw), .int .i64 (patWindow raw)] ∧ Below w.heap.size w w1) := by
    show _ ∧ _
    rw [HW1.out, HPb.out]; exact ⟨blk_alloc _ _ _, (Below.refl _ _).alloc (Nat.le_refl _) _⟩
  have hps : X.c.ps.length = patN raw := by rw [hc, ← hr]; show (patSteps (patText r.pattern)).length = _; rw [(patText_steps r.pattern).2.1, patPairs_len]
  have hma : Calls Tryd.prog 18 #[.pointer (some ⟨b, 0, none⟩)] w1 fun e w' => ∃ a c ms, e = .returned (.tuple #[.slice a (List.length ms) c, .bool (decide (100 < ((⟨patPairs raw, patIsOne raw, patWindow raw⟩ : Pq).findL X.log).length))]) ∧ LsAt w' w1.heap.size a c ms (patN raw) (((⟨patPairs raw, patIsOne raw, patWindow raw⟩ : Pq).findL X.log).take 100) ∧ Below w1.heap.size w1 w' := by
    have := xmatches_any b X w1 (h.below HP1.out.2) (by omega) hl hts
    rw [hps, hc, cfg_find, hr] at this
    exact this
  have hlo : ∀ u, Below w.heap.size w u → Calls Tryd.prog 16 #[.pointer (some ⟨b, 0, none⟩)] u fun e w' => ∃ (a : Option Addr) (c : Nat), e = .returned (.slice a X.log.length c) ∧ EvAt w' a X.log ∧ Below u.heap.size u w' := fun u hu => by
    refine (xlog_any b X u (h.below hu) hl).mono ?_
    rintro e w' ⟨a, c, he, hown, hb⟩
    exact ⟨a, c, he, EvAt.of_owns hown, hb⟩
  have hla : ∀ u (a : Option Addr) (c : Nat), Below w.heap.size w u → EvAt u a X.log → Calls Tryd.prog 34 #[.agg #[.slice ka (patN raw) kc, .slice na (patN raw) nc, .bool (patIsOne raw), .int .i64 (patWindow raw)], .slice a X.log.length c] u fun e w' => ∃ a c ms, e = .returned (.tuple #[.slice a (List.length ms) c, .bool (decide (100 < ((⟨patPairs raw, patIsOne raw, patWindow raw⟩ : Pq).findL X.log).length))]) ∧ LsAt w' u.heap.size a c ms (patN raw) (((⟨patPairs raw, patIsOne raw, patWindow raw⟩ : Pq).findL X.log).take 100) ∧ Below u.heap.size u w' := fun u a c hu hev => by
    have := all_any (⟨patPairs raw, patIsOne raw, patWindow raw⟩ : Pq) X.log (patN raw) ka kc na nc a c u (patPairs_len raw) h3 hl hts (hnk.below hu) (hnn.below hu) hev
    rw [rowZ_find (by show (patPairs raw).length ≤ 3; rw [patPairs_len]; exact h3) (pat_win0 raw) (by intro e he; rw [pat_nt0]; exact hkn e he)] at this
    exact this
  obtain ⟨FLs, HFL⟩ := hex ((⟨patPairs raw, patIsOne raw, patWindow raw⟩ : Pq).findL X.log)
  rw [← HFL.out] at hma
  rw [← HFL.out] at hla
  obtain ⟨LG, HLG⟩ := hex X.log
  rw [← HLG.out] at hlo hla
  clear h hc hl hts hkn hnk hnn hr hps HFL
  have HS : Hid (∀ (a a' : Option Addr) (c c' : Nat) (ms ms' : List (Nat × Nat)) (u : World), LsAt u w.heap.size a c ms (patN raw) (FLs.take 100) → LsAt u w.heap.size a' c' ms' (patN raw) (FLs.take 100) → Calls Tryd.prog 35 #[.slice a ms.length c, .slice a' ms'.length c'] u fun e w' => e = .returned (.bool true) ∧ Below u.heap.size u w') := by
    intro a a' c c' ms ms' u h1 h2
    rw [h1.len, h2.len]
    refine (sameLists_eq _ (patN raw) a a' c c' u h1.read h2.read (by rw [List.length_take]; omega) h3).mono ?_
    rintro e w' ⟨he, m, rfl⟩
    exact ⟨he, ⟨rfl, rfl, rfl, Nat.le_refl _, fun _ _ => rfl⟩⟩
  obtain ⟨mo, HMo⟩ := hex (decide (100 < FLs.length))
  rw [← HMo.out] at hma
  rw [← HMo.out] at hla
  have hw1 : w.alloc (.cells #[.slice ka (patN raw) kc, .slice na (patN raw) nc, .bool (patIsOne raw), .int .i64 (patWindow raw)] 30) = w1 := HW1.out.symm
  go_enter Tryd.func12, Tryd.ntmps12
  go_upto_region 1 with fail
  rw [← HPb.out]
  clear hw1 HW1
  go_upto_region 2 with (go_at_call 18; refine hma.mono ?_; rintro e w2 ⟨a, c, ms, rfl, hls, hb2⟩)
  have HL2 : Hid (LsAt w2 w.heap.size a c ms (patN raw) (FLs.take 100)) := hls.mono HP1.out.2.size
  have HP2 : Hid (Blk w2 pb 30 [.slice ka (patN raw) kc, .slice na (patN raw) nc, .bool (patIsOne raw), .int .i64 (patWindow raw)] ∧ Below w.heap.size w w2) := ⟨HP1.out.1.below hb2 HP1.out.1.lt, HP1.out.2.trans (hb2.mono HP1.out.2.size)⟩
  clear hma hls hb2 HP1
  refine upTo_region (fun u : World => u.cell? ⟨pb, 0, none⟩ = some (.slice ka (patN raw) kc) ∧ u.cell? ⟨pb, 1, none⟩ = some (.slice na (patN raw) nc) ∧ u.cell? ⟨pb, 2, none⟩ = some (.bool (patIsOne raw)) ∧ u.cell? ⟨pb, 3, none⟩ = some (.int .i64 (patWindow raw))) 9 9 rfl (by kernel_rfl) ?_
  have hS0 : (fun u : World => u.cell? ⟨pb, 0, none⟩ = some (.slice ka (patN raw) kc) ∧ u.cell? ⟨pb, 1, none⟩ = some (.slice na (patN raw) nc) ∧ u.cell? ⟨pb, 2, none⟩ = some (.bool (patIsOne raw)) ∧ u.cell? ⟨pb, 3, none⟩ = some (.int .i64 (patWindow raw))) w2.drew := ⟨HP2.out.1.cell 0, HP2.out.1.cell 1, HP2.out.1.cell 2, HP2.out.1.cell 3⟩
  refine upTo_take2 (i := 0) (v := ?v31_0) rfl (by kernel_rfl) (by kernel_rfl) (by kernel_rfl) rfl (fun _ _ _ h => h) (by rfl) hS0 ?hy31_0 ?rest31_0
  case hy31_0 => (intro u hu; (try dsimp only at hu); go_simp; first | done | with_reducible rfl)
  (try simp only [Act.put, List.setIfInBounds_toArray, List.set_cons_zero, List.set_cons_succ, List.getElem_toArray, List.getElem_cons_succ, List.getElem_cons_zero])
  refine upTo_take2 (i := 1) (v := ?v31_1) rfl (by kernel_rfl) (by kernel_rfl) (by kernel_rfl) rfl (fun _ _ _ h => h) (by rfl) hS0 ?hy31_1 ?rest31_1
  case hy31_1 => (intro u hu; (try dsimp only at hu); go_simp; first | done | with_reducible rfl)
  (try simp only [Act.put, List.setIfInBounds_toArray, List.set_cons_zero, List.set_cons_succ, List.getElem_toArray, List.getElem_cons_succ, List.getElem_cons_zero])
  clear hS0
  refine upTo_one (i := 2) (by kernel_rfl) rfl (fun K hK => ?_)
  go_simp
  refine (hlo _ (HP2.out.2.drew)).mono ?_
  rintro e w3 ⟨la, lc, rfl, hev3, hb3⟩
  have hb3' : Below w2.heap.size w2 w3 := ⟨hb3.os, hb3.tape, hb3.output, hb3.size, hb3.block⟩
  have HP3 : Hid (Blk w3 pb 30 [.slice ka (patN raw) kc, .slice na (patN raw) nc, .bool (patIsOne raw), .int .i64 (patWindow raw)] ∧ Below w.heap.size w w3 ∧ EvAt w3 la LG ∧ LsAt w3 w.heap.size a c ms (patN raw) (FLs.take 100)) := ⟨HP2.out.1.below hb3' HP2.out.1.lt, HP2.out.2.trans (hb3'.mono HP2.out.2.size), hev3, HL2.out.below hb3'⟩
  clear hb3 hb3' hev3 hlo HP2 HL2
  refine hK.out _ _ (fun _ => ⟨HP3.out.1.cell 0, HP3.out.1.cell 1, HP3.out.1.cell 2, HP3.out.1.cell 3⟩) ?_
  clear hK K
  (try simp only [Act.put, List.setIfInBounds_toArray, List.set_cons_zero, List.set_cons_succ, List.getElem_toArray, List.getElem_cons_succ, List.getElem_cons_zero])
  refine upTo_one (i := 3) (by kernel_rfl) rfl (fun K hK => ?_)
  go_simp
  refine (hla _ la lc HP3.out.2.1 HP3.out.2.2.1).mono ?_
  rintro e w4 ⟨a', c', ms', rfl, hls, hb4⟩
  have HP4 : Hid (Blk w4 pb 30 [.slice ka (patN raw) kc, .slice na (patN raw) nc, .bool (patIsOne raw), .int .i64 (patWindow raw)] ∧ Below w.heap.size w w4 ∧ LsAt w4 w.heap.size a c ms (patN raw) (FLs.take 100) ∧ LsAt w4 w.heap.size a' c' ms' (patN raw) (FLs.take 100)) := ⟨HP3.out.1.below hb4 HP3.out.1.lt, HP3.out.2.1.trans (hb4.mono HP3.out.2.1.size), HP3.out.2.2.2.below hb4, hls.mono HP3.out.2.1.size⟩
  clear hls hb4 hla HP3
  refine hK.out _ _ (fun _ => ⟨HP4.out.1.cell 0, HP4.out.1.cell 1, HP4.out.1.cell 2, HP4.out.1.cell 3⟩) ?_
  clear hK K
  (try simp only [Act.put, List.setIfInBounds_toArray, List.set_cons_zero, List.set_cons_succ, List.getElem_toArray, List.getElem_cons_succ, List.getElem_cons_zero])
  have hS0 : (fun u : World => u.cell? ⟨pb, 0, none⟩ = some (.slice ka (patN raw) kc) ∧ u.cell? ⟨pb, 1, none⟩ = some (.slice na (patN raw) nc) ∧ u.cell? ⟨pb, 2, none⟩ = some (.bool (patIsOne raw)) ∧ u.cell? ⟨pb, 3, none⟩ = some (.int .i64 (patWindow raw))) w4 := ⟨HP4.out.1.cell 0, HP4.out.1.cell 1, HP4.out.1.cell 2, HP4.out.1.cell 3⟩
  refine upTo_take2 (i := 4) (v := ?v32_4) rfl (by kernel_rfl) (by kernel_rfl) (by kernel_rfl) rfl (fun _ _ _ h => h) (by rfl) hS0 ?hy32_4 ?rest32_4
  case hy32_4 => (intro u hu; (try dsimp only at hu); go_simp; first | done | with_reducible rfl)
  (try simp only [Act.put, List.setIfInBounds_toArray, List.set_cons_zero, List.set_cons_succ, List.getElem_toArray, List.getElem_cons_succ, List.getElem_cons_zero])
  refine upTo_take2 (i := 5) (v := ?v32_5) rfl (by kernel_rfl) (by kernel_rfl) (by kernel_rfl) rfl (fun _ _ _ h => h) (by rfl) hS0 ?hy32_5 ?rest32_5
  case hy32_5 => (intro u hu; (try dsimp only at hu); go_simp; first | done | with_reducible rfl)
  (try simp only [Act.put, List.setIfInBounds_toArray, List.set_cons_zero, List.set_cons_succ, List.getElem_toArray, List.getElem_cons_succ, List.getElem_cons_zero])
  refine upTo_take2 (i := 6) (v := ?v32_6) rfl (by kernel_rfl) (by kernel_rfl) (by kernel_rfl) rfl (fun _ _ _ h => h) (by rfl) hS0 ?hy32_6 ?rest32_6
  case hy32_6 => (intro u hu; (try dsimp only at hu); go_simp; first | done | with_reducible rfl)
  (try simp only [Act.put, List.setIfInBounds_toArray, List.set_cons_zero, List.set_cons_succ, List.getElem_toArray, List.getElem_cons_succ, List.getElem_cons_zero])
  refine upTo_take2 (i := 7) (v := ?v32_7) rfl (by kernel_rfl) (by kernel_rfl) (by kernel_rfl) rfl (fun _ _ _ h => h) (by rfl) hS0 ?hy32_7 ?rest32_7
  case hy32_7 => (intro u hu; (try dsimp only at hu); go_simp; first | done | with_reducible rfl)
  (try simp only [Act.put, List.setIfInBounds_toArray, List.set_cons_zero, List.set_cons_succ, List.getElem_toArray, List.getElem_cons_succ, List.getElem_cons_zero])
  refine upTo_take2 (i := 8) (v := ?v32_8) rfl (by kernel_rfl) (by kernel_rfl) (by kernel_rfl) rfl (fun _ _ _ h => h) (by rfl) hS0 ?hy32_8 ?rest32_8
  case hy32_8 => (intro u hu; (try dsimp only at hu); go_simp; first | done | with_reducible rfl)
  (try simp only [Act.put, List.setIfInBounds_toArray, List.set_cons_zero, List.set_cons_succ, List.getElem_toArray, List.getElem_cons_succ, List.getElem_cons_zero])
  refine upTo_done (by kernel_rfl) ?_
  clear hS0
  have hsl := HS.out a a' c c' ms ms' w4 HP4.out.2.2.1 HP4.out.2.2.2
  clear HS HMo
  go_wp2_with (go_at_call 35; refine hsl.mono ?_; rintro e w5 ⟨rfl, hb5⟩)
  go_ret
  first | exact ⟨rfl, HP4.out.2.1.trans (hb5.mono HP4.out.2.1.size)⟩ | exact ⟨by cases mo <;> rfl, HP4.out.2.1.trans (hb5.mono HP4.out.2.1.size)⟩
end Go.Proofs.YtghcololkgeoeabDoor
namespace Go.Proofs.YtghcololkgeoeabDoor
open Go.RowKit
set_option linter.unusedVariables false
set_option linter.unusedSimpArgs false
attribute [local go_sem ↓] Go.wp_at_zero Go.wp_at_succ

/-! ### the events' kinds -/
def KInv (X : Eng) : Prop := ∃ N R, Like N X R ∧ ∀ e ∈ R.all, e.kind ≠ 0
theorem KInv.log {X : Eng} (h : KInv X) : ∀ e ∈ X.log, e.kind ≠ 0 := by
  obtain ⟨N, R, hl, hk⟩ := h
  intro e he
  exact hk e (hl.sim.perm.mem_iff.1 (List.mem_append_left _ he))
theorem kinv_join {X X' : Eng} {A z : Int} (h : KInv X) (hX : JoinsX X A z X') : KInv X' := by
  obtain ⟨N, R, hl, hk⟩ := h
  obtain ⟨z', R', hR⟩ := joinR_some R A
  exact ⟨_, R', (join_agree hl hX hR).2, by rw [(joinR_keeps hR).all]; exact hk⟩
theorem kinv_leave {X X' : Eng} {A z : Int} (h : KInv X) (hX : LeavesX X A z X') : KInv X' := by
  obtain ⟨N, R, hl, hk⟩ := h
  obtain ⟨z', R', hR⟩ := leaveR_some R A
  exact ⟨_, R', (leave_agree hl hX hR).2, by rw [(leaveR_keeps hR).all]; exact hk⟩
theorem kinv_punct {X X' : Eng} {A ts z : Int} (h : KInv X) (hX : PunctsX X A ts z X') : KInv X' := by
  obtain ⟨N, R, hl, hk⟩ := h
  obtain ⟨z', R', hR⟩ := punctsR_some R A ts
  exact ⟨_, R', (puncts_agree hl hX hR).2, by rw [(punctsR_keeps hR).all]; exact hk⟩
theorem kinv_tick {X X' : Eng} {n z : Int} (h : KInv X) (hX : TicksX X n z X') : KInv X' := by
  obtain ⟨N, R, hl, hk⟩ := h
  obtain ⟨z', R', hR⟩ := tickR_some R n
  exact ⟨_, R', (tick_agree hl hX hR).2, by rw [(tickR_keeps hR).all]; exact hk⟩
theorem pushR_kind {R R' : Ref} {A z : Int} {E : Ev} (h : PushesR R A E z R') (hz : z = 0) : 65 ≤ E.kind := by
  rcases h with ⟨_, rfl, _⟩ | ⟨i, r, rfl, hr, h⟩
  · cases hz
  · rcases h with ⟨h, rfl, _⟩ | ⟨_, _, rfl, _⟩ | ⟨hw, _⟩
    · exact absurd hz h
    · cases hz
    · unfold wrongOf at hw
      by_cases h1 : r.inn = false
      · rw [if_pos h1] at hw; cases hw
      · rw [if_neg h1] at hw
        by_cases h2 : badB E = true
        · rw [if_pos h2] at hw; cases hw
        · simp only [badB, Bool.or_eq_true, decide_eq_true_eq, not_or] at h2
          omega
theorem kinv_push {X X' : Eng} {A z : Int} {E : Ev} (h : KInv X) (hX : PushesX X A E z X') : KInv X' := by
  obtain ⟨N, R, hl, hk⟩ := h
  obtain ⟨z', R', hR⟩ := pushesR_some R A E
  refine ⟨_, R', (pushes_agree hl hX hR).2, ?_⟩
  rcases pushesR_led hR with ⟨_, rfl⟩ | ⟨hz, _, i, r, _, _, _, _, h⟩
  · exact hk
  · have hE := pushR_kind hR hz
    rcases h with ⟨_, ha, _⟩ | ⟨_, _, ha, _⟩ | ⟨_, _, ha, _⟩
    · rw [ha]
      intro e he
      rcases List.mem_append.1 he with he | he
      · exact hk e he
      · simp only [List.mem_singleton] at he
        rw [he]
        show (R.taken i E).kind ≠ 0
        have : (R.taken i E).kind = E.kind := rfl
        omega
    · rw [ha]; exact hk
    · rw [ha]; exact hk
theorem kinv_line {X : Eng} {i : Nat} {p q : PSrc} (h : KInv X) (hp : X.srcs[i]? = some p) (hq : q.inn = p.inn ∧ q.idle = p.idle ∧ q.mark = p.mark ∧ q.sil = p.sil ∧ q.last = p.last) : KInv { X with srcs := X.srcs.set i q } := by
  obtain ⟨N, R, hl, hk⟩ := h
  exact ⟨N, R, sim_line hl hp hq, hk⟩
theorem kinv_step {i : Nat} {c : UInt8} {f f' : FedN} {X X' : Eng} (h : KInv X) (hs : StepX i c f X f' X') : KInv X' := by
  obtain ⟨p, hp, hs⟩ := hs
  have hn : KInv (X.noLine i) := by rw [noLine_get hp]; exact kinv_line h hp ⟨rfl, rfl, rfl, rfl, rfl⟩
  rcases hs with ⟨_, _, la, lc, rfl⟩ | ⟨_, _, _, rfl⟩ | ⟨_, _, z, a, ha, _, hX⟩ | ⟨_, _, z, a, ha, _, hX⟩
  · exact kinv_line h hp ⟨rfl, rfl, rfl, rfl, rfl⟩
  · exact hn
  · exact kinv_push (A := i) hn (Or.inr ⟨i, a, rfl, ha, hX⟩)
  · exact kinv_punct (A := i) hn (Or.inr ⟨i, a, rfl, ha, hX⟩)
theorem kinv_runs {i : Nat} {l : List UInt8} {f f' : FedN} {X X' : Eng} (h : KInv X) (hs : Runs i l f X f' X') : KInv X' := by
  induction hs with
  | nil f X => exact h
  | cons hh t ih => exact ih (kinv_step h hh)
theorem kinv_done {X X' : Eng} {A z : Int} {a : ActR} (h : KInv X) (hd : DoneX X A a z X') : KInv X' := by
  rcases hd with ⟨_, h'⟩ | ⟨_, h'⟩ | ⟨_, h'⟩ | ⟨_, h'⟩ | ⟨_, h'⟩ | ⟨_, h'⟩
  · exact kinv_join h h'
  · exact kinv_leave h h'
  · exact kinv_push h h'
  · exact kinv_punct h h'
  · exact kinv_tick h h'
  · rcases h' with ⟨_, _, rfl⟩ | ⟨i, N, f, tr, _, _, _, hr⟩
    · exact h
    · exact kinv_runs h (runX_runs hr)
theorem kinv_runL {s : Nat} : ∀ {X X' : Eng}, KInv X → RunL s X X' → KInv X' := by
  induction s with
  | zero => intro X X' h hr; cases hr; exact h
  | succ s ih =>
    intro X X' h hr
    obtain ⟨Y, p, r1, hp, ⟨_, rfl⟩ | ⟨i1, p1⟩⟩ := hr
    · exact ih h r1
    · exact kinv_leave (A := s) (ih h r1) (Or.inr ⟨s, p, rfl, hp, Or.inr ⟨i1, rfl, p1⟩⟩)
theorem joinSeq_all (R : Ref) (s : Nat) : (joinSeq R s).all = R.all := by
  induction s with
  | zero => rfl
  | succ s ih => obtain ⟨z, h⟩ := joinSeq_spec R s; rw [(joinR_keeps h).all, ih]
theorem kinv_joined {M n : Nat} {X : Eng} {c : Cfg} (h : Like M X (joinSeq (newRef c n none 0 0) n)) : KInv X := ⟨M, _, h, by rw [joinSeq_all]; intro e he; exact absurd (show e ∈ ([] : List Ev) from he) (by simp)⟩

/-! ### a pattern that everybody finds -/
theorem Fl.let {X : Eng} {c : Cfg} {p : PSrc} {wt lg : List Ev} {m : Int} (h : Fl X c p wt lg m) (hi : p.inn = true) (hd : p.idle = false) (r : Int) (hr : r = if m < p.mark then p.mark else m) : Fl X.settled c p (wt.filter (fun e => !decide (e.ts < r))) (lg ++ wt.filter (fun e => decide (e.ts < r))) r := by
  have hl : X.leastTo X.srcs.length = (p.mark, true) := by
    have : 0 < X.srcs.length := get_lt h.src
    obtain ⟨k, hk⟩ : ∃ k, X.srcs.length = k + 1 := ⟨X.srcs.length - 1, by omega⟩
    rw [hk]; exact least_one h.src hi hd h.out k
  have ha : X.rise = r := by unfold Eng.rise Eng.aim; rw [hl, h.mg, hr]; simp
  refine ⟨h.c, h.src, h.out, ?_, ?_, h.late, ha⟩
  · show X.wait.filter (fun e => !decide (e.ts < X.rise)) = _
    rw [ha, h.wait]
  · show X.log ++ X.wait.filter (fun e => decide (e.ts < X.rise)) = _
    rw [ha, h.wait, h.log]
theorem flowP {c : Cfg} {X X2 : Eng} {p : PSrc} {z m : Int} {E : Ev} {wt lg : List Ev} (hs : c.slack = 0) (hrm : (wt.length : Int) < c.room) (hln : wt.length + lg.length < 200) (hi : p.inn = true) (hd : p.idle = false) (hm : p.mark < E.ts) (hmm : m < E.ts) (hl : p.last < E.seq) (hb : badB E = false) (hbt : beyondB E.ts = false) (hE : E.src = 0) (hwt : ∀ e ∈ wt, e.ts < E.ts) (h : Fl X c p wt lg m) (hP : PushesX X 0 E z X2) :
    ∃ q, q.inn = true ∧ q.idle = false ∧ q.mark = E.ts ∧ q.last = E.seq ∧ Fl X2 c q [E] (lg ++ wt) E.ts := by
  rcases hP with ⟨o, _, _⟩ | ⟨i, p', hi', hp, hP⟩
  · unfold Off at o; have := get_lt h.src; omega
  · obtain rfl : i = 0 := by omega
    rw [h.src] at hp
    cases hp
    have hw : pWrong p E = 0 := by unfold pWrong; rw [hi, hb, hbt, if_neg (by simp), if_neg (by simp), if_neg (by simp), if_neg (by omega)]
    have hlate : X.isLate p E.ts = false := by
      unfold Eng.isLate
      rw [hd, Bool.false_and, Bool.false_or]
      exact decide_eq_false (by omega)
    have hfull : X.full 0 (X.fate (X.isLate p E.ts)) = false := by
      rw [hlate]
      have hf : X.fate false = 2 := rfl
      rw [hf]
      unfold Eng.full Eng.waitOf
      rw [if_neg (by omega), if_neg (by omega), h.wait, h.log, h.c]
      have : (wt.filter (fun e => decide (e.src = ((0 : Nat) : Int)))).length ≤ wt.length := List.length_filter_le _ _
      simp only [Bool.or_eq_false_iff, decide_eq_false_iff_not]
      omega
    rcases hP with ⟨hw', _⟩ | ⟨_, hf, _⟩ | ⟨_, _, rfl, Y, hY, hpl⟩
    · exact absurd hw hw'
    · rw [hfull] at hf; cases hf
    · obtain ⟨Z, rfl, zc, zs, zm, zl, zz⟩ := hY
      rw [hlate] at zz
      have hfate : X.fate false = 2 := rfl
      rw [hfate] at zz
      rcases zz with ⟨zz, _⟩ | ⟨zz, _⟩ | ⟨_, hins, zlt⟩
      · omega
      · omega
      · have hT : X.taken 0 2 E = E := by
          unfold Eng.taken
          rw [if_neg (fun e => by omega)]
          cases E; simp only at hE; subst hE; rfl
        rw [hT] at hins
        obtain ⟨a, b, e1, e2, hb1, _⟩ := hins.ex
        rw [h.wait] at e1
        have hb0 : b = [] := by
          cases b with
          | nil => rfl
          | cons x b =>
            have h1 := hb1 x (by simp)
            have h2 := hwt x (by rw [e1]; simp)
            unfold aheadB at h1
            simp only [decide_eq_true_eq, Bool.or_eq_true, Bool.and_eq_true] at h1
            omega
        subst hb0
        rw [List.append_nil] at e1
        subst e1
        have hps : X.pushSrc p E = { p with last := E.seq, sil := 0, mark := E.ts } := by
          unfold Eng.pushSrc
          rw [hlate]
          simp only [Bool.false_eq_true, if_false]
          unfold PSrc.touched
          simp only [hd, Bool.false_eq_true, if_false]
          unfold PSrc.raised
          rw [h.c, hs]
          simp only [Int.sub_zero]
          rw [if_pos hm]
        refine ⟨{ p with last := E.seq, sil := 0, mark := E.ts }, hi, hd, rfl, rfl, ?_⟩
        have hf : Fl Z c { p with last := E.seq, sil := 0, mark := E.ts } (wt ++ [E]) lg m := by
          refine ⟨zc.trans h.c, ?_, ?_, e2, by rw [zl, h.log], by rw [zlt, h.late], by rw [zm, h.mg]⟩
          · rw [zs, hps, List.getElem?_set, if_pos rfl, if_pos (get_lt h.src)]
          · intro i q hi0 hq
            rw [zs, List.getElem?_set, if_neg (by omega)] at hq
            exact h.out i q hi0 hq
        have hg := hf.let hi hd E.ts (by rw [if_pos hmm])
        have w1 : (wt ++ [E]).filter (fun e => !decide (e.ts < E.ts)) = [E] := by
          rw [List.filter_append, List.filter_eq_nil_iff.2 (fun e he => by simpa using hwt e he)]
          simp
        have w2 : (wt ++ [E]).filter (fun e => decide (e.ts < E.ts)) = wt := by
          rw [List.filter_append, List.filter_eq_self.2 (fun e he => by simpa using hwt e he)]
          simp
        rw [w1, w2] at hg
        exact hg.pl hpl
theorem flowL {c : Cfg} {X2 X3 : Eng} {q : PSrc} {m z : Int} {E : Ev} {lg : List Ev} (hi : q.inn = true) (hm : m ≤ E.ts) (h : Fl X2 c q [E] lg m) (hL : LeavesX X2 0 z X3) : X3.log = lg ++ [E] := by
  rcases hL with ⟨o, _, _⟩ | ⟨i, p', hi', hp, hL⟩
  · unfold Off at o; have := get_lt h.src; omega
  · obtain rfl : i = 0 := by omega
    rw [h.src] at hp
    cases hp
    rcases hL with ⟨h', _⟩ | ⟨_, rfl, hpl⟩
    · rw [hi] at h'; cases h'
    · obtain ⟨ga, gc, wa, wc, rfl⟩ := hpl
      show (X2.gone 0 q).log = _
      have hl := least_none (X := { X2 with srcs := X2.srcs.set 0 { q with inn := false, idle := false } }) (fun i p hp => by
        have hp : (X2.srcs.set 0 { q with inn := false, idle := false })[i]? = some p := hp
        rw [List.getElem?_set] at hp
        split at hp
        · split at hp
          · simp only [Option.some.injEq] at hp; rw [← hp]
          · simp at hp
        · rename_i hne; exact h.out i p (by omega) hp)
      unfold Eng.gone Eng.settled
      show X2.log ++ X2.wait.filter _ = _
      have hr : Eng.rise { X2 with srcs := X2.srcs.set 0 { q with inn := false, idle := false } } = E.ts + 1 := by
        unfold Eng.rise Eng.aim
        rw [hl]
        simp only [h.wait, h.mg]
        simp [lastTs]; omega
      rw [hr, h.log, h.wait]
      simp
      omega
theorem evo_up {w wr w' : World} {b : Nat} {X X' : Eng} (h : MemX wr b X ∧ (∀ k, some k ∈ X.fp b → w.heap.size ≤ k) ∧ Below w.heap.size w wr) (e : EvoX wr b X w' X') : MemX w' b X' ∧ (∀ k, some k ∈ X'.fp b → w.heap.size ≤ k) ∧ Below w.heap.size w w' := by
  refine ⟨e.mem, fun k hk => ?_, kept_toBelow h.2.2 e.kept h.2.1⟩
  rcases e.grow k hk with f | f
  · exact h.2.1 k f
  · exact Nat.le_trans h.2.2.size f
def cfgH : Cfg := ⟨1, 0, 0, 4, 0, ⟨#[65, 33, 66, 67, 61, 64, 50]⟩⟩
theorem cfgH_ok : cfgH.ok := by
  refine ⟨by unfold Cfg.fits; decide, by decide, ?_⟩
  unfold wholeP
  right
  refine ⟨by decide, by decide, ?_⟩
  unfold winB
  decide
def H0 : Ev := ⟨0, 0, 1, 65, 0⟩
def H1 : Ev := ⟨0, 1, 2, 66, 1⟩
def H2 : Ev := ⟨0, 2, 3, 67, 0⟩
theorem hits_log {sg sc : Nat} {pv : PatV} {z0 z1 z2 z3 z4 : Int} {X0 X1 X2 X3 X4 : Eng} (h0 : JoinsX (newEng cfgH 1 sg sc pv) 0 z0 X0) (h1 : PushesX X0 0 H0 z1 X1) (h2 : PushesX X1 0 H1 z2 X2) (h3 : PushesX X2 0 H2 z3 X3) (h4 : LeavesX X3 0 z4 X4) : X4.log = [H0, H1, H2] := by
  obtain ⟨_, p, a1, a2, a3, a4, f0⟩ := flow1 (by omega) h0
  obtain ⟨q1, b1, b2, b3, b4, f1⟩ := flowP (E := H0) rfl (by decide) (by decide) a1 a2 (by rw [a3]; decide) (by decide) (by rw [a4]; decide) (by decide) (by decide) rfl (by simp) f0 h1
  obtain ⟨q2, c1, c2, c3, c4, f2⟩ := flowP (E := H1) rfl (by decide) (by decide) b1 b2 (by rw [b3]; decide) (by decide) (by rw [b4]; decide) (by decide) (by decide) rfl (by intro e he; simp at he; rw [he]; decide) f1 h2
  obtain ⟨q3, d1, d2, d3, d4, f3⟩ := flowP (E := H2) rfl (by decide) (by decide) c1 c2 (by rw [c3]; decide) (by decide) (by rw [c4]; decide) (by decide) (by decide) rfl (by intro e he; simp at he; rw [he]; decide) f2 h3
  have := flowL d1 (Int.le_refl _) f3 h4
  rw [this]; rfl
theorem hits_find : cfgH.pq.findL [H0, H1, H2] = [[0, 2]] ∧ cfgH.ps.length = 2 := by decide
set_option maxRecDepth 100000 in
set_option maxHeartbeats 4000000 in
theorem hits_true (w : World) : Calls Tryd.prog 14 #[] w fun e w' => e = .returned (.bool true) ∧ Below w.heap.size w w' := by
  have hne : Calls Tryd.prog 25 #[.agg #[.int .i64 1, .int .i64 0, .int .i64 0, .int .i64 4, .int .i64 0, .string ⟨#[65, 33, 66, 67, 61, 64, 50]⟩]] w fun e w' => ∃ b sg sc p, e = .returned (.tuple #[.pointer (some ⟨b, 0, none⟩), .int .i64 0]) ∧ MemX w' b (newEng cfgH 1 sg sc p) ∧ (∀ k, some k ∈ (newEng cfgH 1 sg sc p).fp b → w.heap.size ≤ k) ∧ Below w.heap.size w w' := xnew_ok 1 cfgH w rfl cfgH_ok.1 cfgH_ok.2.1 cfgH_ok.2.2
  go_enter Tryd.func14, Tryd.ntmps14
  go_upto_region 4 with (go_at_call 25; refine hne.mono ?_; rintro e w1 ⟨b, sg, sc, pv, rfl, hM, hf, hb⟩)
  have HX1 : Hid (MemX w1 b (newEng cfgH 1 sg sc pv) ∧ (∀ k, some k ∈ (newEng cfgH 1 sg sc pv).fp b → w.heap.size ≤ k) ∧ Below w.heap.size w w1) := ⟨hM, hf, hb⟩
  have HLk1 : Hid (∃ M R, Like M (newEng cfgH 1 sg sc pv) R) := ⟨_, _, new_like rfl cfgH_ok⟩
  have HL1 : Hid (Like 0 (newEng cfgH 1 sg sc pv) (newRef cfgH 1 none 0 0)) := new_like rfl cfgH_ok
  clear hM hf hb hne
  have hst : Calls Tryd.prog 27 #[.pointer (some ⟨b, 0, none⟩), .int .i64 0] w1 fun e w' => ∃ z X', e = .returned (.int .i64 z) ∧ JoinsX (newEng cfgH 1 sg sc pv) 0 z X' ∧ (∃ M R, Like M X' R) ∧ EvoX w1 b (newEng cfgH 1 sg sc pv) w' X' := by
    obtain ⟨M, R, hl⟩ := HLk1.out
    refine (xjoin_rel 0 hl w1 HX1.out.1).mono ?_
    rintro e w' ⟨z, X', he, hP, hev⟩
    obtain ⟨z', R', hR⟩ := joinR_some R 0
    exact ⟨z, X', he, hP, ⟨_, R', (join_agree hl hP hR).2⟩, hev⟩
  go_upto_region 5 with (go_at_call 27; refine hst.mono ?_; rintro e w2 ⟨z1, X0, rfl, hP1, hl1, hev1⟩)
  have HP1 : Hid (JoinsX (newEng cfgH 1 sg sc pv) 0 z1 X0) := hP1
  have HLk2 : Hid (∃ M R, Like M X0 R) := hl1
  have HX2 : Hid (MemX w2 b X0 ∧ (∀ k, some k ∈ X0.fp b → w.heap.size ≤ k) ∧ Below w.heap.size w w2) := evo_up HX1.out hev1
  clear hst hP1 hl1 hev1
  have hst : Calls Tryd.prog 30 #[.pointer (some ⟨b, 0, none⟩), .int .i64 0, .agg #[.int .i64 0, .int .i64 0, .int .i64 1, .int .i64 65, .int .i64 0]] w2 fun e w' => ∃ z X', e = .returned (.int .i64 z) ∧ PushesX X0 0 H0 z X' ∧ (∃ M R, Like M X' R) ∧ EvoX w2 b X0 w' X' := by
    obtain ⟨M, R, hl⟩ := HLk2.out
    refine (xpushes_rel 0 H0 hl w2 HX2.out.1).mono ?_
    rintro e w' ⟨z, X', he, hP, hev⟩
    obtain ⟨z', R', hR⟩ := pushesR_some R 0 H0
    exact ⟨z, X', he, hP, ⟨_, R', (pushes_agree hl hP hR).2⟩, hev⟩
  go_upto_region 6 with (go_at_call 30; refine hst.mono ?_; rintro e w3 ⟨z2, X1, rfl, hP2, hl2, hev2⟩)
  have HP2 : Hid (PushesX X0 0 H0 z2 X1) := hP2
  have HLk3 : Hid (∃ M R, Like M X1 R) := hl2
  have HX3 : Hid (MemX w3 b X1 ∧ (∀ k, some k ∈ X1.fp b → w.heap.size ≤ k) ∧ Below w.heap.size w w3) := evo_up HX2.out hev2
  clear hst hP2 hl2 hev2
  have hst : Calls Tryd.prog 30 #[.pointer (some ⟨b, 0, none⟩), .int .i64 0, .agg #[.int .i64 0, .int .i64 1, .int .i64 2, .int .i64 66, .int .i64 1]] w3 fun e w' => ∃ z X', e = .returned (.int .i64 z) ∧ PushesX X1 0 H1 z X' ∧ (∃ M R, Like M X' R) ∧ EvoX w3 b X1 w' X' := by
    obtain ⟨M, R, hl⟩ := HLk3.out
    refine (xpushes_rel 0 H1 hl w3 HX3.out.1).mono ?_
    rintro e w' ⟨z, X', he, hP, hev⟩
    obtain ⟨z', R', hR⟩ := pushesR_some R 0 H1
    exact ⟨z, X', he, hP, ⟨_, R', (pushes_agree hl hP hR).2⟩, hev⟩
  go_upto_region 7 with (go_at_call 30; refine hst.mono ?_; rintro e w4 ⟨z3, X2, rfl, hP3, hl3, hev3⟩)
  have HP3 : Hid (PushesX X1 0 H1 z3 X2) := hP3
  have HLk4 : Hid (∃ M R, Like M X2 R) := hl3
  have HX4 : Hid (MemX w4 b X2 ∧ (∀ k, some k ∈ X2.fp b → w.heap.size ≤ k) ∧ Below w.heap.size w w4) := evo_up HX3.out hev3
  clear hst hP3 hl3 hev3
  have hst : Calls Tryd.prog 30 #[.pointer (some ⟨b, 0, none⟩), .int .i64 0, .agg #[.int .i64 0, .int .i64 2, .int .i64 3, .int .i64 67, .int .i64 0]] w4 fun e w' => ∃ z X', e = .returned (.int .i64 z) ∧ PushesX X2 0 H2 z X' ∧ (∃ M R, Like M X' R) ∧ EvoX w4 b X2 w' X' := by
    obtain ⟨M, R, hl⟩ := HLk4.out
    refine (xpushes_rel 0 H2 hl w4 HX4.out.1).mono ?_
    rintro e w' ⟨z, X', he, hP, hev⟩
    obtain ⟨z', R', hR⟩ := pushesR_some R 0 H2
    exact ⟨z, X', he, hP, ⟨_, R', (pushes_agree hl hP hR).2⟩, hev⟩
  go_upto_region 8 with (go_at_call 30; refine hst.mono ?_; rintro e w5 ⟨z4, X3, rfl, hP4, hl4, hev4⟩)
  have HP4 : Hid (PushesX X2 0 H2 z4 X3) := hP4
  have HLk5 : Hid (∃ M R, Like M X3 R) := hl4
  have HX5 : Hid (MemX w5 b X3 ∧ (∀ k, some k ∈ X3.fp b → w.heap.size ≤ k) ∧ Below w.heap.size w w5) := evo_up HX4.out hev4
  clear hst hP4 hl4 hev4
  have hst : Calls Tryd.prog 29 #[.pointer (some ⟨b, 0, none⟩), .int .i64 0] w5 fun e w' => ∃ z X', e = .returned (.int .i64 z) ∧ LeavesX X3 0 z X' ∧ (∃ M R, Like M X' R) ∧ EvoX w5 b X3 w' X' := by
    obtain ⟨M, R, hl⟩ := HLk5.out
    refine (xleave_rel 0 hl w5 HX5.out.1).mono ?_
    rintro e w' ⟨z, X', he, hP, hev⟩
    obtain ⟨z', R', hR⟩ := leaveR_some R 0
    exact ⟨z, X', he, hP, ⟨_, R', (leave_agree hl hP hR).2⟩, hev⟩
  go_upto_region 9 with (go_at_call 29; refine hst.mono ?_; rintro e w6 ⟨z5, X4, rfl, hP5, hl5, hev5⟩)
  have HP5 : Hid (LeavesX X3 0 z5 X4) := hP5
  have HLk6 : Hid (∃ M R, Like M X4 R) := hl5
  have HX6 : Hid (MemX w6 b X4 ∧ (∀ k, some k ∈ X4.fp b → w.heap.size ≤ k) ∧ Below w.heap.size w w6) := evo_up HX5.out hev5
  clear hst hP5 hl5 hev5
  have HLg : Hid (X4.log = [H0, H1, H2]) := hits_log HP1.out HP2.out HP3.out HP4.out HP5.out
  have HCc : Hid (X4.c = cfgH) := (leaveX_grow HP5.out).c.trans ((pushesX_grow HP4.out).c.trans ((pushesX_grow HP3.out).c.trans ((pushesX_grow HP2.out).c.trans (joinX_grow HP1.out).c)))
  have hma : Calls Tryd.prog 18 #[.pointer (some ⟨b, 0, none⟩)] w6 fun e w' => ∃ a c ms, e = .returned (.tuple #[.slice a (List.length ms) c, .bool false]) ∧ LsAt w' w6.heap.size a c ms 2 [[0, 2]] ∧ Below w6.heap.size w6 w' := by
    obtain ⟨M, R, hl⟩ := HLk6.out
    have := xmatches_any b X4 w6 HX6.out.1 (by rw [HCc.out]; decide) hl.sane.log (like_ts hl)
    rw [HCc.out, HLg.out, hits_find.1, hits_find.2] at this
    exact this
  go_upto_region 10 with (go_at_call 18; refine hma.mono ?_; rintro e w7 ⟨a, c, ms, rfl, hls, hb7⟩)
  obtain ⟨g, mb, mc, hg, x0, hx⟩ := hls.read 0 (by simp)
  have y0 := hx 0 (by omega)
  have y1 := hx 1 (by omega)
  have hml : ms.length = 1 := hls.len
  simp at y0 y1
  subst hg
  have HB : Hid (Below w.heap.size w w7) := HX6.out.2.2.trans (hb7.mono HX6.out.2.2.size)
  rw [hml]
  clear hma hls hb7 hx hml
  go_wp2
  go_ret
  exact ⟨rfl, HB.out⟩
end Go.Proofs.YtghcololkgeoeabDoor
