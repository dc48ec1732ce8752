import Derived.Test.YtghcololkgeoeaaDoorPartL2
namespace Go.Proofs.YtghcololkgeoeaaDoor
open Go.RowKit
set_option linter.unusedVariables false
set_option linter.unusedSimpArgs false
attribute [local go_sem ↓] Go.wp_at_zero Go.wp_at_succ

theorem gone_inn {X X' : Eng} {s : Nat} {p : PSrc} (hp : X.srcs[s]? = some p) (h : PlX (X.gone s p) X') (j : Nat) (q : PSrc) (hq : X'.srcs[j]? = some q) : (j = s ∧ q.inn = false) ∨ (j ≠ s ∧ X.srcs[j]? = some q) := by
  obtain ⟨ga, gc, wa, wc, rfl⟩ := h
  have hq : (X.srcs.set s { p with inn := false, idle := false })[j]? = some q := hq
  rw [List.getElem?_set] at hq
  by_cases hj : s = j
  · rw [if_pos hj, if_pos (get_lt hp)] at hq
    simp only [Option.some.injEq] at hq
    exact Or.inl ⟨hj.symm, by rw [← hq]⟩
  · rw [if_neg hj] at hq
    exact Or.inr ⟨fun e => hj e.symm, hq⟩
set_option maxHeartbeats 1000000 in
theorem left_kp (n b gb : Nat) (c : Cfg) (bs : List (Nat × TypeId × List Value)) (X : Eng) (G : LG) (R : Ref) (w0 w : World) (h : OneL w0 w b gb bs X G) (hk : Kp n c X G R) (hn : c.sources = n) (h6 : n ≤ 6) :
    Calls Tryd.prog 20 #[.pointer (some ⟨b, 0, none⟩), .agg #[.int .i64 c.sources, .int .i64 c.slack, .int .i64 c.policy, .int .i64 c.room, .int .i64 c.idle, .string c.pat]] w fun e w' => e = .returned (.bool true) ∧ ∃ X', OneL w0 w' b gb bs X' G ∧ (∃ R', Kp n c X' G R') ∧ ∀ (j : Nat) p, X'.srcs[j]? = some p → p.inn = false := by
  refine (left_gen b n c X w h.mx hn h6 (fun s Y => (∃ R', Kp n c Y G R') ∧ ∀ (j : Nat) p, j < s → Y.srcs[j]? = some p → p.inn = false) ⟨⟨R, hk⟩, fun j p hj => absurd hj (by omega)⟩ (fun s Y ⟨⟨R', hk'⟩, _⟩ => ⟨by obtain ⟨N, hl⟩ := hk'.lk; exact hl.sane, hk'.n⟩) ?_ ?_).mono ?_
  · rintro s Y hl ⟨hk', hj⟩ hinn
    refine ⟨hk', fun j p hjs hp => ?_⟩
    by_cases e : j = s
    · subst e
      rw [List.getElem?_eq_getElem hl] at hp
      simp only [Option.some.injEq] at hp
      rw [← hp]; exact hinn
    · exact hj j p (by omega) hp
  · rintro s Y hl ⟨⟨R', hk'⟩, hj⟩ hinn Y' hpl
    have hJ : LeavesX Y s 0 Y' := Or.inr ⟨s, _, rfl, List.getElem?_eq_getElem hl, Or.inr ⟨hinn, rfl, hpl⟩⟩
    refine ⟨kp_leave hk' hJ, fun j p hjs hp => ?_⟩
    rcases gone_inn (List.getElem?_eq_getElem hl) hpl j p hp with ⟨_, e⟩ | ⟨e, hp'⟩
    · exact e
    · exact hj j p (by omega) hp'
  · rintro e w' ⟨he, Y, ⟨hk', hj⟩, hev⟩
    exact ⟨he, Y, h.evoX hev, hk', fun j p hp => hj j p (by obtain ⟨R', hk'⟩ := hk'; have := get_lt hp; rw [hk'.n] at this; exact this) hp⟩
set_option maxRecDepth 100000 in
set_option maxHeartbeats 16000000 in
theorem written_any (n b : Nat) (c : Cfg) (sa : Option Addr) (sc : Nat) (acts : List ActR) (bs : List (Nat × TypeId × List Value)) (X : Eng) (R : Ref) (w0 w : World) (hM : MemX w b X) (hbel : Below w0.heap.size w0 w) (hfx : ∀ k, some k ∈ X.fp b → w0.heap.size ≤ k) (hbx : ∀ x ∈ bs, Blk w x.1 x.2.1 x.2.2) (hnx : ∀ x ∈ bs, some x.1 ∉ X.fp b)
    (hkp : Kp n c X LG0 R) (hn : c.sources = n) (hn6 : 1 ≤ n ∧ n ≤ 6) (hsa : ActsAt w0 sa acts) (hlen : acts.length ≤ 9000000000000000) :
    Calls Tryd.prog 19 #[.pointer (some ⟨b, 0, none⟩), .agg #[.int .i64 c.sources, .int .i64 c.slack, .int .i64 c.policy, .int .i64 c.room, .int .i64 c.idle, .string c.pat], .slice sa acts.length sc] w fun e w' => ∃ gb, e = .returned (.tuple #[.pointer (some ⟨gb, 0, none⟩), .bool true]) ∧ ∃ X' G', OneL w0 w' b gb bs X' G' ∧ ∃ R', Kp n c X' G' R' := by
  obtain ⟨w1, HW1⟩ := hex (w.alloc (.cells c.vals.toArray 26))
  obtain ⟨w2, HW2⟩ := hex (w1.alloc (.cells #[.slice none 0 0, .slice none 0 0] 50))
  obtain ⟨cb, HCb⟩ := hex w.heap.size
  obtain ⟨gb, HGb⟩ := hex (w.heap.size + 1)
  have hw2 : (w.alloc (.cells #[.int .i64 c.sources, .int .i64 c.slack, .int .i64 c.policy, .int .i64 c.room, .int .i64 c.idle, .string c.pat] 26)).alloc (.cells #[.slice none 0 0, .slice none 0 0] 50) = w2 := by rw [HW2.out, HW1.out]; rfl
  have HP2 : Hid (OneL w0 w2 b gb ((cb, 26, c.vals) :: bs) X LG0) := by
    have hal : Below w.heap.size w w1 := by rw [HW1.out]; exact (Below.refl _ _).alloc (Nat.le_refl _) _
    have hs1 : w1.heap.size = gb := by rw [HW1.out, HGb.out]; simp
    have := OneL.begin (w := w0) (w1 := w1) (w2 := w2) (bs := ((cb, 26, c.vals) :: bs)) (hM.below hal) (hbel.trans (hal.mono hbel.size)) hfx ?_ ?_ HW2.out
    · rw [hs1] at this; exact this
    · intro x hx
      rcases List.mem_cons.1 hx with rfl | hx
      · show Blk w1 cb _ _; rw [HW1.out, HCb.out]; exact blk_alloc _ _ _
      · exact (hbx x hx).below hal (hbx x hx).lt
    · intro x hx
      rcases List.mem_cons.1 hx with rfl | hx
      · intro e; have h1 := hM.fp_lt _ e; have h2 := HCb.out; simp only at h1; omega
      · exact hnx x hx
  have HKp0 : Hid (Kp n c X LG0 R) := hkp
  have HNn : Hid (c.sources = n) := hn
  have HSA : Hid (ActsAt w0 sa acts) := hsa
  have hjo : ∀ u, OneL w0 u b gb ((cb, 26, c.vals) :: bs) X LG0 → Calls Tryd.prog 12 #[.pointer (some ⟨b, 0, none⟩), .agg #[.int .i64 c.sources, .int .i64 c.slack, .int .i64 c.policy, .int .i64 c.room, .int .i64 c.idle, .string c.pat]] u fun e w' => e = .returned (.bool true) ∧ ∃ X', OneL w0 w' b gb ((cb, 26, c.vals) :: bs) X' LG0 ∧ ∃ R', Kp n c X' LG0 R' := fun u hu => by
    refine (joined_gen b n c X u hu.mx HNn.out hn6.2 (fun s Y => ∃ R', Kp n c Y LG0 R') ⟨R, HKp0.out⟩ (fun s Y ⟨R', hk'⟩ => ⟨by obtain ⟨N, hl⟩ := hk'.lk; exact hl.sane, hk'.n⟩) (fun s Y hl h _ => h) ?_).mono ?_
    · rintro s Y hl ⟨R', hk'⟩ hinn Y' hpl
      exact kp_join (A := s) (z := 0) hk' (Or.inr ⟨s, _, rfl, List.getElem?_eq_getElem hl, Or.inr ⟨hinn, rfl, hpl⟩⟩)
    · rintro e w' ⟨he, Y, hk', hev⟩
      exact ⟨he, Y, hu.evoX hev, hk'⟩
  clear hM hbel hfx hbx hnx hkp hn hsa
  go_enter Tryd.func19, Tryd.ntmps19
  go_upto_region 2 with fail
  rw [← HGb.out, ← HCb.out]
  clear hw2 HW2 HW1 HGb HCb
  have k0 := (HP2.out.bx (cb, 26, c.vals) (by simp)).cell 0
  have k1 := (HP2.out.bx (cb, 26, c.vals) (by simp)).cell 1
  have k2 := (HP2.out.bx (cb, 26, c.vals) (by simp)).cell 2
  have k3 := (HP2.out.bx (cb, 26, c.vals) (by simp)).cell 3
  have k4 := (HP2.out.bx (cb, 26, c.vals) (by simp)).cell 4
  have k5 := (HP2.out.bx (cb, 26, c.vals) (by simp)).cell 5
  simp only [Cfg.vals, List.getElem?_cons_zero, List.getElem?_cons_succ] at k0 k1 k2 k3 k4 k5
  go_upto_region 3 with (go_at_call 12; refine (hjo _ HP2.out).mono ?_; rintro e w3 ⟨rfl, X3, hp3, hk3⟩)
  have HP3 : Hid (OneL w0 w3 b gb ((cb, 26, c.vals) :: bs) X3 LG0) := hp3
  have HK3 : Hid (∃ R', Kp n c X3 LG0 R') := hk3
  clear hjo hp3 hk3 HP2 k0 k1 k2 k3 k4 k5 HKp0
  go_wp2
  go_loopw [9, 10] (fun ov iv wr => ∃ (i : Nat) (X : Eng) (G : LG), i ≤ acts.length ∧ ov = .bool true ∧ iv = .int .i64 i ∧ OneL w0 wr b gb ((cb, 26, c.vals) :: bs) X G ∧ ∃ R', Kp n c X G R') (fun _ iv _ => acts.length - (intOf iv).toNat)
  case atStart => exact ⟨0, X3, LG0, Nat.zero_le _, rfl, rfl, HP3.out, HK3.out⟩
  case round =>
    obtain ⟨i, X, G, hi, rfl, rfl, hp, hk⟩ := hrel
    have HP : Hid (OneL w0 wr b gb ((cb, 26, c.vals) :: bs) X G) := hp
    have HK : Hid (∃ R', Kp n c X G R') := hk
    clear hp hk HP3 HK3
    by_cases hle : i < acts.length
    · have hle' : (i : Int) < (acts.length : Int) := by omega
      have hi00 : (0 : Int) ≤ (i : Int) := by omega
      obtain ⟨hao, ab, ao, hsab, hal, hac⟩ := HSA.out i hle
      obtain ⟨a, HAa⟩ := hex acts[i]
      rw [← HAa.out] at hao hac
      have HAo : Hid a.ok := hao
      have HAL : Hid (ab < w0.heap.size ∧ ∀ o, o < 8 → w0.cell? ⟨ab, ao + i * 8 + o, none⟩ = a.cells[o]?) := ⟨hal, hac⟩
      clear hac hao hal
      subst hsab
      have bb : ∀ o, o < 8 → wr.cell? ⟨ab, ao + i * 8 + o, none⟩ = a.cells[o]? := fun o ho => (HP.out.bel.cell (p := ⟨ab, ao + i * 8 + o, none⟩) HAL.out.1).trans (HAL.out.2 o ho)
      have a0 := bb 0 (by omega)
      have a1 := bb 1 (by omega)
      have a2 := bb 2 (by omega)
      have a3 := bb 3 (by omega)
      have a4 := bb 4 (by omega)
      have a5 := bb 5 (by omega)
      have a6 := bb 6 (by omega)
      have a7 := bb 7 (by omega)
      simp only [ActR.cells, List.getElem?_cons_zero, List.getElem?_cons_succ, Nat.add_zero] at a0 a1 a2 a3 a4 a5 a6 a7
      clear bb
      have hpk : ∀ u, Calls Tryd.prog 23 #[.int .i64 a.d, .int .i64 7] u fun e w' => e = .returned (.int .i64 (pk a.d 7)) ∧ u = w' := fun u => pick_any _ _ u HAo.out.1 (by omega) (by omega)
      have hdr := pk_range (c := a.d) (n := 7) (by omega)
      obtain ⟨d, HD⟩ := hex (pk a.d 7)
      rw [← HD.out] at hpk hdr
      go_upto_region 7 with (go_at_call 23; refine (hpk _).mono ?_; rintro e w' ⟨rfl, rfl⟩)
      clear hpk
      have k0 := (HP.out.bx (cb, 26, c.vals) (by simp)).cell 0
      have k1 := (HP.out.bx (cb, 26, c.vals) (by simp)).cell 1
      have k2 := (HP.out.bx (cb, 26, c.vals) (by simp)).cell 2
      have k3 := (HP.out.bx (cb, 26, c.vals) (by simp)).cell 3
      have k4 := (HP.out.bx (cb, 26, c.vals) (by simp)).cell 4
      have k5 := (HP.out.bx (cb, 26, c.vals) (by simp)).cell 5
      simp only [Cfg.vals, List.getElem?_cons_zero, List.getElem?_cons_succ] at k0 k1 k2 k3 k4 k5
      have hd : d = 0 ∨ d = 1 ∨ d = 2 ∨ d = 3 ∨ d = 4 ∨ d = 5 ∨ d = 6 := by omega
      clear hdr
      rcases hd with rfl | rfl | rfl | rfl | rfl | rfl | rfl
      · have hdo : ∀ u, OneL w0 u b gb ((cb, 26, c.vals) :: bs) X G → Calls Tryd.prog 14 #[.pointer (some ⟨b, 0, none⟩), .agg #[.int .i64 c.sources, .int .i64 c.slack, .int .i64 c.policy, .int .i64 c.room, .int .i64 c.idle, .string c.pat], .agg #[.int .i64 a.d, .int .i64 a.s, .int .i64 a.n, .int .i64 a.E.src, .int .i64 a.E.seq, .int .i64 a.E.ts, .int .i64 a.E.kind, .int .i64 a.E.val]] u fun e w' => ∃ z X', e = .returned (.int .i64 z) ∧ OneL w0 w' b gb ((cb, 26, c.vals) :: bs) X' G ∧ ∃ R', Kp n c X' G R' := fun u hu => by
          obtain ⟨R', hk'⟩ := HK.out
          obtain ⟨N, hl⟩ := hk'.lk
          refine (done_rel b c X R' a u hu.mx hl HAo.out (by rw [HNn.out]; omega)).mono ?_
          rintro e w' ⟨z, X', he, hD, hev⟩
          exact ⟨z, X', he, hu.evoX hev, kp_done hk' hD (by rw [← HD.out]; decide) (by rw [← HD.out]; decide) (by rw [← HD.out]; decide)⟩
        go_upto_region 8 with fail
        refine upTo_region (fun u : World => u.cell? ⟨cb, 0, none⟩ = some (.int .i64 c.sources) ∧ u.cell? ⟨cb, 1, none⟩ = some (.int .i64 c.slack) ∧ u.cell? ⟨cb, 2, none⟩ = some (.int .i64 c.policy) ∧ u.cell? ⟨cb, 3, none⟩ = some (.int .i64 c.room) ∧ u.cell? ⟨cb, 4, none⟩ = some (.int .i64 c.idle) ∧ u.cell? ⟨cb, 5, none⟩ = some (.string c.pat) ∧ u.cell? ⟨ab, ao + i * 8, none⟩ = some (.int .i64 a.d) ∧ u.cell? ⟨ab, ao + i * 8 + 1, none⟩ = some (.int .i64 a.s) ∧ u.cell? ⟨ab, ao + i * 8 + 2, none⟩ = some (.int .i64 a.n) ∧ u.cell? ⟨ab, ao + i * 8 + 3, none⟩ = some (.int .i64 a.E.src) ∧ u.cell? ⟨ab, ao + i * 8 + 4, none⟩ = some (.int .i64 a.E.seq) ∧ u.cell? ⟨ab, ao + i * 8 + 5, none⟩ = some (.int .i64 a.E.ts) ∧ u.cell? ⟨ab, ao + i * 8 + 6, none⟩ = some (.int .i64 a.E.kind) ∧ u.cell? ⟨ab, ao + i * 8 + 7, none⟩ = some (.int .i64 a.E.val)) 7 7 rfl (by kernel_rfl) ?_
        have hS0 : (fun u : World => u.cell? ⟨cb, 0, none⟩ = some (.int .i64 c.sources) ∧ u.cell? ⟨cb, 1, none⟩ = some (.int .i64 c.slack) ∧ u.cell? ⟨cb, 2, none⟩ = some (.int .i64 c.policy) ∧ u.cell? ⟨cb, 3, none⟩ = some (.int .i64 c.room) ∧ u.cell? ⟨cb, 4, none⟩ = some (.int .i64 c.idle) ∧ u.cell? ⟨cb, 5, none⟩ = some (.string c.pat) ∧ u.cell? ⟨ab, ao + i * 8, none⟩ = some (.int .i64 a.d) ∧ u.cell? ⟨ab, ao + i * 8 + 1, none⟩ = some (.int .i64 a.s) ∧ u.cell? ⟨ab, ao + i * 8 + 2, none⟩ = some (.int .i64 a.n) ∧ u.cell? ⟨ab, ao + i * 8 + 3, none⟩ = some (.int .i64 a.E.src) ∧ u.cell? ⟨ab, ao + i * 8 + 4, none⟩ = some (.int .i64 a.E.seq) ∧ u.cell? ⟨ab, ao + i * 8 + 5, none⟩ = some (.int .i64 a.E.ts) ∧ u.cell? ⟨ab, ao + i * 8 + 6, none⟩ = some (.int .i64 a.E.kind) ∧ u.cell? ⟨ab, ao + i * 8 + 7, none⟩ = some (.int .i64 a.E.val)) wr.drew := ⟨k0, k1, k2, k3, k4, k5, a0, a1, a2, a3, a4, a5, a6, a7⟩
        refine upTo_take2 (i := 0) (v := ?v41_0) rfl (by kernel_rfl) (by kernel_rfl) (by kernel_rfl) rfl (fun _ _ _ h => h) (by rfl) hS0 ?hy41_0 ?rest41_0
        case hy41_0 => (intro u hu; (try dsimp only at hu); go_simp; first | done | with_reducible rfl)
        (try simp only [Act.put, List.setIfInBounds_toArray, List.set_cons_zero, List.set_cons_succ, List.getElem_toArray, List.getElem_cons_succ, List.getElem_cons_zero])
        refine upTo_take2 (i := 1) (v := ?v41_1) rfl (by kernel_rfl) (by kernel_rfl) (by kernel_rfl) rfl (fun _ _ _ h => h) (by rfl) hS0 ?hy41_1 ?rest41_1
        case hy41_1 => (intro u hu; (try dsimp only at hu); go_simp; first | done | with_reducible rfl)
        (try simp only [Act.put, List.setIfInBounds_toArray, List.set_cons_zero, List.set_cons_succ, List.getElem_toArray, List.getElem_cons_succ, List.getElem_cons_zero])
        refine upTo_take2 (i := 2) (v := ?v41_2) rfl (by kernel_rfl) (by kernel_rfl) (by kernel_rfl) rfl (fun _ _ _ h => h) (by rfl) hS0 ?hy41_2 ?rest41_2
        case hy41_2 => (intro u hu; (try dsimp only at hu); go_simp; first | done | with_reducible rfl)
        (try simp only [Act.put, List.setIfInBounds_toArray, List.set_cons_zero, List.set_cons_succ, List.getElem_toArray, List.getElem_cons_succ, List.getElem_cons_zero])
        refine upTo_take2 (i := 3) (v := ?v41_3) rfl (by kernel_rfl) (by kernel_rfl) (by kernel_rfl) rfl (fun _ _ _ h => h) (by rfl) hS0 ?hy41_3 ?rest41_3
        case hy41_3 => (intro u hu; (try dsimp only at hu); go_simp; first | done | with_reducible rfl)
        (try simp only [Act.put, List.setIfInBounds_toArray, List.set_cons_zero, List.set_cons_succ, List.getElem_toArray, List.getElem_cons_succ, List.getElem_cons_zero])
        refine upTo_take2 (i := 4) (v := ?v41_4) rfl (by kernel_rfl) (by kernel_rfl) (by kernel_rfl) rfl (fun _ _ _ h => h) (by rfl) hS0 ?hy41_4 ?rest41_4
        case hy41_4 => (intro u hu; (try dsimp only at hu); go_simp; first | done | with_reducible rfl)
        (try simp only [Act.put, List.setIfInBounds_toArray, List.set_cons_zero, List.set_cons_succ, List.getElem_toArray, List.getElem_cons_succ, List.getElem_cons_zero])
        refine upTo_take2 (i := 5) (v := ?v41_5) rfl (by kernel_rfl) (by kernel_rfl) (by kernel_rfl) rfl (fun _ _ _ h => h) (by rfl) hS0 ?hy41_5 ?rest41_5
        case hy41_5 => (intro u hu; (try dsimp only at hu); go_simp; first | done | with_reducible rfl)
        (try simp only [Act.put, List.setIfInBounds_toArray, List.set_cons_zero, List.set_cons_succ, List.getElem_toArray, List.getElem_cons_succ, List.getElem_cons_zero])
        clear hS0 k0 k1 k2 k3 k4 k5 a0 a1 a2 a3 a4 a5 a6 a7
        refine upTo_one (i := 6) (by kernel_rfl) rfl (fun K hK => ?_)
        go_simp
        refine (hdo _ (HP.out.below ((Below.refl _ wr).drew))).mono ?_
        rintro e w5 ⟨z, X5, rfl, hp5, hk5⟩
        have HP5 : Hid (OneL w0 w5 b gb ((cb, 26, c.vals) :: bs) X5 G) := hp5
        have HK5 : Hid (∃ R', Kp n c X5 G R') := hk5
        clear hp5 hk5 hdo
        have k0 := (HP5.out.bx (cb, 26, c.vals) (by simp)).cell 0
        have k1 := (HP5.out.bx (cb, 26, c.vals) (by simp)).cell 1
        have k2 := (HP5.out.bx (cb, 26, c.vals) (by simp)).cell 2
        have k3 := (HP5.out.bx (cb, 26, c.vals) (by simp)).cell 3
        have k4 := (HP5.out.bx (cb, 26, c.vals) (by simp)).cell 4
        have k5 := (HP5.out.bx (cb, 26, c.vals) (by simp)).cell 5
        simp only [Cfg.vals, List.getElem?_cons_zero, List.getElem?_cons_succ] at k0 k1 k2 k3 k4 k5
        have bb : ∀ o, o < 8 → w5.cell? ⟨ab, ao + i * 8 + o, none⟩ = a.cells[o]? := fun o ho => (HP5.out.bel.cell (p := ⟨ab, ao + i * 8 + o, none⟩) HAL.out.1).trans (HAL.out.2 o ho)
        have a0 := bb 0 (by omega)
        have a1 := bb 1 (by omega)
        have a2 := bb 2 (by omega)
        have a3 := bb 3 (by omega)
        have a4 := bb 4 (by omega)
        have a5 := bb 5 (by omega)
        have a6 := bb 6 (by omega)
        have a7 := bb 7 (by omega)
        simp only [ActR.cells, List.getElem?_cons_zero, List.getElem?_cons_succ, Nat.add_zero] at a0 a1 a2 a3 a4 a5 a6 a7
        clear bb
        refine hK.out _ _ (fun _ => ⟨k0, k1, k2, k3, k4, k5, a0, a1, a2, a3, a4, a5, a6, a7⟩) ?_
        clear hK K
        (try simp only [Act.put, List.setIfInBounds_toArray, List.set_cons_zero, List.set_cons_succ, List.getElem_toArray, List.getElem_cons_succ, List.getElem_cons_zero])
        refine upTo_done (by kernel_rfl) ?_
        clear k0 k1 k2 k3 k4 k5 a0 a1 a2 a3 a4 a5 a6 a7 HP HK
        go_wp2
        go_roundw
        case rel => exact ⟨i + 1, X5, G, by omega, rfl, by go_num, HP5.out, HK5.out⟩
        case measure => simp [intOf]; omega
      · have hdo : ∀ u, OneL w0 u b gb ((cb, 26, c.vals) :: bs) X G → Calls Tryd.prog 14 #[.pointer (some ⟨b, 0, none⟩), .agg #[.int .i64 c.sources, .int .i64 c.slack, .int .i64 c.policy, .int .i64 c.room, .int .i64 c.idle, .string c.pat], .agg #[.int .i64 a.d, .int .i64 a.s, .int .i64 a.n, .int .i64 a.E.src, .int .i64 a.E.seq, .int .i64 a.E.ts, .int .i64 a.E.kind, .int .i64 a.E.val]] u fun e w' => ∃ z X', e = .returned (.int .i64 z) ∧ OneL w0 w' b gb ((cb, 26, c.vals) :: bs) X' G ∧ ∃ R', Kp n c X' G R' := fun u hu => by
          obtain ⟨R', hk'⟩ := HK.out
          obtain ⟨N, hl⟩ := hk'.lk
          refine (done_rel b c X R' a u hu.mx hl HAo.out (by rw [HNn.out]; omega)).mono ?_
          rintro e w' ⟨z, X', he, hD, hev⟩
          exact ⟨z, X', he, hu.evoX hev, kp_done hk' hD (by rw [← HD.out]; decide) (by rw [← HD.out]; decide) (by rw [← HD.out]; decide)⟩
        go_upto_region 8 with fail
        refine upTo_region (fun u : World => u.cell? ⟨cb, 0, none⟩ = some (.int .i64 c.sources) ∧ u.cell? ⟨cb, 1, none⟩ = some (.int .i64 c.slack) ∧ u.cell? ⟨cb, 2, none⟩ = some (.int .i64 c.policy) ∧ u.cell? ⟨cb, 3, none⟩ = some (.int .i64 c.room) ∧ u.cell? ⟨cb, 4, none⟩ = some (.int .i64 c.idle) ∧ u.cell? ⟨cb, 5, none⟩ = some (.string c.pat) ∧ u.cell? ⟨ab, ao + i * 8, none⟩ = some (.int .i64 a.d) ∧ u.cell? ⟨ab, ao + i * 8 + 1, none⟩ = some (.int .i64 a.s) ∧ u.cell? ⟨ab, ao + i * 8 + 2, none⟩ = some (.int .i64 a.n) ∧ u.cell? ⟨ab, ao + i * 8 + 3, none⟩ = some (.int .i64 a.E.src) ∧ u.cell? ⟨ab, ao + i * 8 + 4, none⟩ = some (.int .i64 a.E.seq) ∧ u.cell? ⟨ab, ao + i * 8 + 5, none⟩ = some (.int .i64 a.E.ts) ∧ u.cell? ⟨ab, ao + i * 8 + 6, none⟩ = some (.int .i64 a.E.kind) ∧ u.cell? ⟨ab, ao + i * 8 + 7, none⟩ = some (.int .i64 a.E.val)) 7 7 rfl (by kernel_rfl) ?_
        have hS0 : (fun u : World => u.cell? ⟨cb, 0, none⟩ = some (.int .i64 c.sources) ∧ u.cell? ⟨cb, 1, none⟩ = some (.int .i64 c.slack) ∧ u.cell? ⟨cb, 2, none⟩ = some (.int .i64 c.policy) ∧ u.cell? ⟨cb, 3, none⟩ = some (.int .i64 c.room) ∧ u.cell? ⟨cb, 4, none⟩ = some (.int .i64 c.idle) ∧ u.cell? ⟨cb, 5, none⟩ = some (.string c.pat) ∧ u.cell? ⟨ab, ao + i * 8, none⟩ = some (.int .i64 a.d) ∧ u.cell? ⟨ab, ao + i * 8 + 1, none⟩ = some (.int .i64 a.s) ∧ u.cell? ⟨ab, ao + i * 8 + 2, none⟩ = some (.int .i64 a.n) ∧ u.cell? ⟨ab, ao + i * 8 + 3, none⟩ = some (.int .i64 a.E.src) ∧ u.cell? ⟨ab, ao + i * 8 + 4, none⟩ = some (.int .i64 a.E.seq) ∧ u.cell? ⟨ab, ao + i * 8 + 5, none⟩ = some (.int .i64 a.E.ts) ∧ u.cell? ⟨ab, ao + i * 8 + 6, none⟩ = some (.int .i64 a.E.kind) ∧ u.cell? ⟨ab, ao + i * 8 + 7, none⟩ = some (.int .i64 a.E.val)) wr.drew := ⟨k0, k1, k2, k3, k4, k5, a0, a1, a2, a3, a4, a5, a6, a7⟩
        refine upTo_take2 (i := 0) (v := ?v42_0) rfl (by kernel_rfl) (by kernel_rfl) (by kernel_rfl) rfl (fun _ _ _ h => h) (by rfl) hS0 ?hy42_0 ?rest42_0
        case hy42_0 => (intro u hu; (try dsimp only at hu); go_simp; first | done | with_reducible rfl)
        (try simp only [Act.put, List.setIfInBounds_toArray, List.set_cons_zero, List.set_cons_succ, List.getElem_toArray, List.getElem_cons_succ, List.getElem_cons_zero])
        refine upTo_take2 (i := 1) (v := ?v42_1) rfl (by kernel_rfl) (by kernel_rfl) (by kernel_rfl) rfl (fun _ _ _ h => h) (by rfl) hS0 ?hy42_1 ?rest42_1
        case hy42_1 => (intro u hu; (try dsimp only at hu); go_simp; first | done | with_reducible rfl)
        (try simp only [Act.put, List.setIfInBounds_toArray, List.set_cons_zero, List.set_cons_succ, List.getElem_toArray, List.getElem_cons_succ, List.getElem_cons_zero])
        refine upTo_take2 (i := 2) (v := ?v42_2) rfl (by kernel_rfl) (by kernel_rfl) (by kernel_rfl) rfl (fun _ _ _ h => h) (by rfl) hS0 ?hy42_2 ?rest42_2
        case hy42_2 => (intro u hu; (try dsimp only at hu); go_simp; first | done | with_reducible rfl)
        (try simp only [Act.put, List.setIfInBounds_toArray, List.set_cons_zero, List.set_cons_succ, List.getElem_toArray, List.getElem_cons_succ, List.getElem_cons_zero])
        refine upTo_take2 (i := 3) (v := ?v42_3) rfl (by kernel_rfl) (by kernel_rfl) (by kernel_rfl) rfl (fun _ _ _ h => h) (by rfl) hS0 ?hy42_3 ?rest42_3
        case hy42_3 => (intro u hu; (try dsimp only at hu); go_simp; first | done | with_reducible rfl)
        (try simp only [Act.put, List.setIfInBounds_toArray, List.set_cons_zero, List.set_cons_succ, List.getElem_toArray, List.getElem_cons_succ, List.getElem_cons_zero])
        refine upTo_take2 (i := 4) (v := ?v42_4) rfl (by kernel_rfl) (by kernel_rfl) (by kernel_rfl) rfl (fun _ _ _ h => h) (by rfl) hS0 ?hy42_4 ?rest42_4
        case hy42_4 => (intro u hu; (try dsimp only at hu); go_simp; first | done | with_reducible rfl)
        (try simp only [Act.put, List.setIfInBounds_toArray, List.set_cons_zero, List.set_cons_succ, List.getElem_toArray, List.getElem_cons_succ, List.getElem_cons_zero])
        refine upTo_take2 (i := 5) (v := ?v42_5) rfl (by kernel_rfl) (by kernel_rfl) (by kernel_rfl) rfl (fun _ _ _ h => h) (by rfl) hS0 ?hy42_5 ?rest42_5
        case hy42_5 => (intro u hu; (try dsimp only at hu); go_simp; first | done | with_reducible rfl)
        (try simp only [Act.put, List.setIfInBounds_toArray, List.set_cons_zero, List.set_cons_succ, List.getElem_toArray, List.getElem_cons_succ, List.getElem_cons_zero])
        clear hS0 k0 k1 k2 k3 k4 k5 a0 a1 a2 a3 a4 a5 a6 a7
        refine upTo_one (i := 6) (by kernel_rfl) rfl (fun K hK => ?_)
        go_simp
        refine (hdo _ (HP.out.below ((Below.refl _ wr).drew))).mono ?_
        rintro e w5 ⟨z, X5, rfl, hp5, hk5⟩
        have HP5 : Hid (OneL w0 w5 b gb ((cb, 26, c.vals) :: bs) X5 G) := hp5
        have HK5 : Hid (∃ R', Kp n c X5 G R') := hk5
        clear hp5 hk5 hdo
        have k0 := (HP5.out.bx (cb, 26, c.vals) (by simp)).cell 0
        have k1 := (HP5.out.bx (cb, 26, c.vals) (by simp)).cell 1
        have k2 := (HP5.out.bx (cb, 26, c.vals) (by simp)).cell 2
        have k3 := (HP5.out.bx (cb, 26, c.vals) (by simp)).cell 3
        have k4 := (HP5.out.bx (cb, 26, c.vals) (by simp)).cell 4
        have k5 := (HP5.out.bx (cb, 26, c.vals) (by simp)).cell 5
        simp only [Cfg.vals, List.getElem?_cons_zero, List.getElem?_cons_succ] at k0 k1 k2 k3 k4 k5
        have bb : ∀ o, o < 8 → w5.cell? ⟨ab, ao + i * 8 + o, none⟩ = a.cells[o]? := fun o ho => (HP5.out.bel.cell (p := ⟨ab, ao + i * 8 + o, none⟩) HAL.out.1).trans (HAL.out.2 o ho)
        have a0 := bb 0 (by omega)
        have a1 := bb 1 (by omega)
        have a2 := bb 2 (by omega)
        have a3 := bb 3 (by omega)
        have a4 := bb 4 (by omega)
        have a5 := bb 5 (by omega)
        have a6 := bb 6 (by omega)
        have a7 := bb 7 (by omega)
        simp only [ActR.cells, List.getElem?_cons_zero, List.getElem?_cons_succ, Nat.add_zero] at a0 a1 a2 a3 a4 a5 a6 a7
        clear bb
        refine hK.out _ _ (fun _ => ⟨k0, k1, k2, k3, k4, k5, a0, a1, a2, a3, a4, a5, a6, a7⟩) ?_
        clear hK K
        (try simp only [Act.put, List.setIfInBounds_toArray, List.set_cons_zero, List.set_cons_succ, List.getElem_toArray, List.getElem_cons_succ, List.getElem_cons_zero])
        refine upTo_done (by kernel_rfl) ?_
        clear k0 k1 k2 k3 k4 k5 a0 a1 a2 a3 a4 a5 a6 a7 HP HK
        go_wp2
        go_roundw
        case rel => exact ⟨i + 1, X5, G, by omega, rfl, by go_num, HP5.out, HK5.out⟩
        case measure => simp [intOf]; omega
      · have hsr : ∀ u, Calls Tryd.prog 42 #[.agg #[.int .i64 c.sources, .int .i64 c.slack, .int .i64 c.policy, .int .i64 c.room, .int .i64 c.idle, .string c.pat], .agg #[.int .i64 a.d, .int .i64 a.s, .int .i64 a.n, .int .i64 a.E.src, .int .i64 a.E.seq, .int .i64 a.E.ts, .int .i64 a.E.kind, .int .i64 a.E.val]] u fun e w' => e = .returned (.int .i64 (srcI c a)) ∧ Below u.heap.size u w' := fun u => source_any c a u HAo.out (by rw [HNn.out]; omega)
        have hpu : ∀ u, OneL w0 u b gb ((cb, 26, c.vals) :: bs) X G → Calls Tryd.prog 43 #[.pointer (some ⟨gb, 0, none⟩), .pointer (some ⟨b, 0, none⟩), .agg #[.int .i64 c.sources, .int .i64 c.slack, .int .i64 c.policy, .int .i64 c.room, .int .i64 c.idle, .string c.pat], .int .i64 (srcI c a), .agg #[.int .i64 a.E.src, .int .i64 a.E.seq, .int .i64 a.E.ts, .int .i64 a.E.kind, .int .i64 a.E.val]] u fun e w' => e = .returned (.bool true) ∧ ∃ X' G', OneL w0 w' b gb ((cb, 26, c.vals) :: bs) X' G' ∧ ∃ R', Kp n c X' G' R' := fun u hu => by
          obtain ⟨R', hk'⟩ := HK.out
          exact push_led n b gb c (srcI c a) a.E ((cb, 26, c.vals) :: bs) X G R' w0 u hu hk' HNn.out hn6.2
        generalize srcI c a = A at *
        go_upto_region 11 with fail
        refine upTo_region (fun u : World => u.cell? ⟨cb, 0, none⟩ = some (.int .i64 c.sources) ∧ u.cell? ⟨cb, 1, none⟩ = some (.int .i64 c.slack) ∧ u.cell? ⟨cb, 2, none⟩ = some (.int .i64 c.policy) ∧ u.cell? ⟨cb, 3, none⟩ = some (.int .i64 c.room) ∧ u.cell? ⟨cb, 4, none⟩ = some (.int .i64 c.idle) ∧ u.cell? ⟨cb, 5, none⟩ = some (.string c.pat) ∧ u.cell? ⟨ab, ao + i * 8, none⟩ = some (.int .i64 a.d) ∧ u.cell? ⟨ab, ao + i * 8 + 1, none⟩ = some (.int .i64 a.s) ∧ u.cell? ⟨ab, ao + i * 8 + 2, none⟩ = some (.int .i64 a.n) ∧ u.cell? ⟨ab, ao + i * 8 + 3, none⟩ = some (.int .i64 a.E.src) ∧ u.cell? ⟨ab, ao + i * 8 + 4, none⟩ = some (.int .i64 a.E.seq) ∧ u.cell? ⟨ab, ao + i * 8 + 5, none⟩ = some (.int .i64 a.E.ts) ∧ u.cell? ⟨ab, ao + i * 8 + 6, none⟩ = some (.int .i64 a.E.kind) ∧ u.cell? ⟨ab, ao + i * 8 + 7, none⟩ = some (.int .i64 a.E.val)) 16 16 rfl (by kernel_rfl) ?_
        have hS0 : (fun u : World => u.cell? ⟨cb, 0, none⟩ = some (.int .i64 c.sources) ∧ u.cell? ⟨cb, 1, none⟩ = some (.int .i64 c.slack) ∧ u.cell? ⟨cb, 2, none⟩ = some (.int .i64 c.policy) ∧ u.cell? ⟨cb, 3, none⟩ = some (.int .i64 c.room) ∧ u.cell? ⟨cb, 4, none⟩ = some (.int .i64 c.idle) ∧ u.cell? ⟨cb, 5, none⟩ = some (.string c.pat) ∧ u.cell? ⟨ab, ao + i * 8, none⟩ = some (.int .i64 a.d) ∧ u.cell? ⟨ab, ao + i * 8 + 1, none⟩ = some (.int .i64 a.s) ∧ u.cell? ⟨ab, ao + i * 8 + 2, none⟩ = some (.int .i64 a.n) ∧ u.cell? ⟨ab, ao + i * 8 + 3, none⟩ = some (.int .i64 a.E.src) ∧ u.cell? ⟨ab, ao + i * 8 + 4, none⟩ = some (.int .i64 a.E.seq) ∧ u.cell? ⟨ab, ao + i * 8 + 5, none⟩ = some (.int .i64 a.E.ts) ∧ u.cell? ⟨ab, ao + i * 8 + 6, none⟩ = some (.int .i64 a.E.kind) ∧ u.cell? ⟨ab, ao + i * 8 + 7, none⟩ = some (.int .i64 a.E.val)) wr.drew := ⟨k0, k1, k2, k3, k4, k5, a0, a1, a2, a3, a4, a5, a6, a7⟩
        refine upTo_take2 (i := 0) (v := ?v43_0) rfl (by kernel_rfl) (by kernel_rfl) (by kernel_rfl) rfl (fun _ _ _ h => h) (by rfl) hS0 ?hy43_0 ?rest43_0
        case hy43_0 => (intro u hu; (try dsimp only at hu); go_simp; first | done | with_reducible rfl)
        (try simp only [Act.put, List.setIfInBounds_toArray, List.set_cons_zero, List.set_cons_succ, List.getElem_toArray, List.getElem_cons_succ, List.getElem_cons_zero])
        refine upTo_take2 (i := 1) (v := ?v43_1) rfl (by kernel_rfl) (by kernel_rfl) (by kernel_rfl) rfl (fun _ _ _ h => h) (by rfl) hS0 ?hy43_1 ?rest43_1
        case hy43_1 => (intro u hu; (try dsimp only at hu); go_simp; first | done | with_reducible rfl)
        (try simp only [Act.put, List.setIfInBounds_toArray, List.set_cons_zero, List.set_cons_succ, List.getElem_toArray, List.getElem_cons_succ, List.getElem_cons_zero])
        refine upTo_take2 (i := 2) (v := ?v43_2) rfl (by kernel_rfl) (by kernel_rfl) (by kernel_rfl) rfl (fun _ _ _ h => h) (by rfl) hS0 ?hy43_2 ?rest43_2
        case hy43_2 => (intro u hu; (try dsimp only at hu); go_simp; first | done | with_reducible rfl)
        (try simp only [Act.put, List.setIfInBounds_toArray, List.set_cons_zero, List.set_cons_succ, List.getElem_toArray, List.getElem_cons_succ, List.getElem_cons_zero])
        refine upTo_take2 (i := 3) (v := ?v43_3) rfl (by kernel_rfl) (by kernel_rfl) (by kernel_rfl) rfl (fun _ _ _ h => h) (by rfl) hS0 ?hy43_3 ?rest43_3
        case hy43_3 => (intro u hu; (try dsimp only at hu); go_simp; first | done | with_reducible rfl)
        (try simp only [Act.put, List.setIfInBounds_toArray, List.set_cons_zero, List.set_cons_succ, List.getElem_toArray, List.getElem_cons_succ, List.getElem_cons_zero])
        refine upTo_take2 (i := 4) (v := ?v43_4) rfl (by kernel_rfl) (by kernel_rfl) (by kernel_rfl) rfl (fun _ _ _ h => h) (by rfl) hS0 ?hy43_4 ?rest43_4
        case hy43_4 => (intro u hu; (try dsimp only at hu); go_simp; first | done | with_reducible rfl)
        (try simp only [Act.put, List.setIfInBounds_toArray, List.set_cons_zero, List.set_cons_succ, List.getElem_toArray, List.getElem_cons_succ, List.getElem_cons_zero])
        refine upTo_take2 (i := 5) (v := ?v43_5) rfl (by kernel_rfl) (by kernel_rfl) (by kernel_rfl) rfl (fun _ _ _ h => h) (by rfl) hS0 ?hy43_5 ?rest43_5
        case hy43_5 => (intro u hu; (try dsimp only at hu); go_simp; first | done | with_reducible rfl)
        (try simp only [Act.put, List.setIfInBounds_toArray, List.set_cons_zero, List.set_cons_succ, List.getElem_toArray, List.getElem_cons_succ, List.getElem_cons_zero])
        refine upTo_take2 (i := 6) (v := ?v43_6) rfl (by kernel_rfl) (by kernel_rfl) (by kernel_rfl) rfl (fun _ _ _ h => h) (by rfl) hS0 ?hy43_6 ?rest43_6
        case hy43_6 => (intro u hu; (try dsimp only at hu); go_simp; first | done | with_reducible rfl)
        (try simp only [Act.put, List.setIfInBounds_toArray, List.set_cons_zero, List.set_cons_succ, List.getElem_toArray, List.getElem_cons_succ, List.getElem_cons_zero])
        refine upTo_take2 (i := 7) (v := ?v43_7) rfl (by kernel_rfl) (by kernel_rfl) (by kernel_rfl) rfl (fun _ _ _ h => h) (by rfl) hS0 ?hy43_7 ?rest43_7
        case hy43_7 => (intro u hu; (try dsimp only at hu); go_simp; first | done | with_reducible rfl)
        (try simp only [Act.put, List.setIfInBounds_toArray, List.set_cons_zero, List.set_cons_succ, List.getElem_toArray, List.getElem_cons_succ, List.getElem_cons_zero])
        refine upTo_take2 (i := 9) (v := ?v43_9) rfl (by kernel_rfl) (by kernel_rfl) (by kernel_rfl) rfl (fun _ _ _ h => h) (by rfl) hS0 ?hy43_9 ?rest43_9
        case hy43_9 => (intro u hu; (try dsimp only at hu); go_simp; first | done | with_reducible rfl)
        (try simp only [Act.put, List.setIfInBounds_toArray, List.set_cons_zero, List.set_cons_succ, List.getElem_toArray, List.getElem_cons_succ, List.getElem_cons_zero])
        refine upTo_take2 (i := 10) (v := ?v43_10) rfl (by kernel_rfl) (by kernel_rfl) (by kernel_rfl) rfl (fun _ _ _ h => h) (by rfl) hS0 ?hy43_10 ?rest43_10
        case hy43_10 => (intro u hu; (try dsimp only at hu); go_simp; first | done | with_reducible rfl)
        (try simp only [Act.put, List.setIfInBounds_toArray, List.set_cons_zero, List.set_cons_succ, List.getElem_toArray, List.getElem_cons_succ, List.getElem_cons_zero])
        refine upTo_take2 (i := 11) (v := ?v43_11) rfl (by kernel_rfl) (by kernel_rfl) (by kernel_rfl) rfl (fun _ _ _ h => h) (by rfl) hS0 ?hy43_11 ?rest43_11
        case hy43_11 => (intro u hu; (try dsimp only at hu); go_simp; first | done | with_reducible rfl)
        (try simp only [Act.put, List.setIfInBounds_toArray, List.set_cons_zero, List.set_cons_succ, List.getElem_toArray, List.getElem_cons_succ, List.getElem_cons_zero])
        refine upTo_take2 (i := 12) (v := ?v43_12) rfl (by kernel_rfl) (by kernel_rfl) (by kernel_rfl) rfl (fun _ _ _ h => h) (by rfl) hS0 ?hy43_12 ?rest43_12
        case hy43_12 => (intro u hu; (try dsimp only at hu); go_simp; first | done | with_reducible rfl)
        (try simp only [Act.put, List.setIfInBounds_toArray, List.set_cons_zero, List.set_cons_succ, List.getElem_toArray, List.getElem_cons_succ, List.getElem_cons_zero])
        refine upTo_take2 (i := 13) (v := ?v43_13) rfl (by kernel_rfl) (by kernel_rfl) (by kernel_rfl) rfl (fun _ _ _ h => h) (by rfl) hS0 ?hy43_13 ?rest43_13
        case hy43_13 => (intro u hu; (try dsimp only at hu); go_simp; first | done | with_reducible rfl)
        (try simp only [Act.put, List.setIfInBounds_toArray, List.set_cons_zero, List.set_cons_succ, List.getElem_toArray, List.getElem_cons_succ, List.getElem_cons_zero])
        clear hS0 k0 k1 k2 k3 k4 k5 a0 a1 a2 a3 a4 a5 a6 a7
        refine upTo_one (i := 8) (by kernel_rfl) rfl (fun K hK => ?_)
        go_simp
        refine (hsr _).mono ?_
        rintro e w4 ⟨rfl, hb4⟩
        have HP4 : Hid (OneL w0 w4 b gb ((cb, 26, c.vals) :: bs) X G) := HP.out.below ⟨hb4.os, hb4.tape, hb4.output, hb4.size, hb4.block⟩
        clear hb4 hsr
        have k0 := (HP4.out.bx (cb, 26, c.vals) (by simp)).cell 0
        have k1 := (HP4.out.bx (cb, 26, c.vals) (by simp)).cell 1
        have k2 := (HP4.out.bx (cb, 26, c.vals) (by simp)).cell 2
        have k3 := (HP4.out.bx (cb, 26, c.vals) (by simp)).cell 3
        have k4 := (HP4.out.bx (cb, 26, c.vals) (by simp)).cell 4
        have k5 := (HP4.out.bx (cb, 26, c.vals) (by simp)).cell 5
        simp only [Cfg.vals, List.getElem?_cons_zero, List.getElem?_cons_succ] at k0 k1 k2 k3 k4 k5
        have bb : ∀ o, o < 8 → w4.cell? ⟨ab, ao + i * 8 + o, none⟩ = a.cells[o]? := fun o ho => (HP4.out.bel.cell (p := ⟨ab, ao + i * 8 + o, none⟩) HAL.out.1).trans (HAL.out.2 o ho)
        have a0 := bb 0 (by omega)
        have a1 := bb 1 (by omega)
        have a2 := bb 2 (by omega)
        have a3 := bb 3 (by omega)
        have a4 := bb 4 (by omega)
        have a5 := bb 5 (by omega)
        have a6 := bb 6 (by omega)
        have a7 := bb 7 (by omega)
        simp only [ActR.cells, List.getElem?_cons_zero, List.getElem?_cons_succ, Nat.add_zero] at a0 a1 a2 a3 a4 a5 a6 a7
        clear bb
        refine hK.out _ _ (fun _ => ⟨k0, k1, k2, k3, k4, k5, a0, a1, a2, a3, a4, a5, a6, a7⟩) ?_
        clear hK K
        (try simp only [Act.put, List.setIfInBounds_toArray, List.set_cons_zero, List.set_cons_succ, List.getElem_toArray, List.getElem_cons_succ, List.getElem_cons_zero])
        clear k0 k1 k2 k3 k4 k5 a0 a1 a2 a3 a4 a5 a6 a7
        refine upTo_one (i := 14) (by kernel_rfl) rfl (fun K hK => ?_)
        go_simp
        refine (hpu _ HP4.out).mono ?_
        rintro e w5 ⟨rfl, X5, G5, hp5, hk5⟩
        have HP5 : Hid (OneL w0 w5 b gb ((cb, 26, c.vals) :: bs) X5 G5) := hp5
        have HK5 : Hid (∃ R', Kp n c X5 G5 R') := hk5
        clear hp5 hk5 hpu
        have k0 := (HP5.out.bx (cb, 26, c.vals) (by simp)).cell 0
        have k1 := (HP5.out.bx (cb, 26, c.vals) (by simp)).cell 1
        have k2 := (HP5.out.bx (cb, 26, c.vals) (by simp)).cell 2
        have k3 := (HP5.out.bx (cb, 26, c.vals) (by simp)).cell 3
        have k4 := (HP5.out.bx (cb, 26, c.vals) (by simp)).cell 4
        have k5 := (HP5.out.bx (cb, 26, c.vals) (by simp)).cell 5
        simp only [Cfg.vals, List.getElem?_cons_zero, List.getElem?_cons_succ] at k0 k1 k2 k3 k4 k5
        have bb : ∀ o, o < 8 → w5.cell? ⟨ab, ao + i * 8 + o, none⟩ = a.cells[o]? := fun o ho => (HP5.out.bel.cell (p := ⟨ab, ao + i * 8 + o, none⟩) HAL.out.1).trans (HAL.out.2 o ho)
        have a0 := bb 0 (by omega)
        have a1 := bb 1 (by omega)
        have a2 := bb 2 (by omega)
        have a3 := bb 3 (by omega)
        have a4 := bb 4 (by omega)
        have a5 := bb 5 (by omega)
        have a6 := bb 6 (by omega)
        have a7 := bb 7 (by omega)
        simp only [ActR.cells, List.getElem?_cons_zero, List.getElem?_cons_succ, Nat.add_zero] at a0 a1 a2 a3 a4 a5 a6 a7
        clear bb
        refine hK.out _ _ (fun _ => ⟨k0, k1, k2, k3, k4, k5, a0, a1, a2, a3, a4, a5, a6, a7⟩) ?_
        clear hK K
        (try simp only [Act.put, List.setIfInBounds_toArray, List.set_cons_zero, List.set_cons_succ, List.getElem_toArray, List.getElem_cons_succ, List.getElem_cons_zero])
        refine upTo_one (i := 15) (by kernel_rfl) rfl (fun K hK => ?_)
        go_simp
        refine hK.out _ _ (fun _ => ⟨k0, k1, k2, k3, k4, k5, a0, a1, a2, a3, a4, a5, a6, a7⟩) ?_
        clear hK K
        (try simp only [Act.put, List.setIfInBounds_toArray, List.set_cons_zero, List.set_cons_succ, List.getElem_toArray, List.getElem_cons_succ, List.getElem_cons_zero])
        refine upTo_done (by kernel_rfl) ?_
        clear k0 k1 k2 k3 k4 k5 a0 a1 a2 a3 a4 a5 a6 a7 HP HK HP4
        go_wp2
        go_roundw
        case rel => exact ⟨i + 1, X5, G5, by omega, rfl, by go_num, HP5.out, HK5.out⟩
        case measure => simp [intOf]; omega
      · have hsr : ∀ u, Calls Tryd.prog 42 #[.agg #[.int .i64 c.sources, .int .i64 c.slack, .int .i64 c.policy, .int .i64 c.room, .int .i64 c.idle, .string c.pat], .agg #[.int .i64 a.d, .int .i64 a.s, .int .i64 a.n, .int .i64 a.E.src, .int .i64 a.E.seq, .int .i64 a.E.ts, .int .i64 a.E.kind, .int .i64 a.E.val]] u fun e w' => e = .returned (.int .i64 (srcI c a)) ∧ Below u.heap.size u w' := fun u => source_any c a u HAo.out (by rw [HNn.out]; omega)
        have hpu : ∀ u, OneL w0 u b gb ((cb, 26, c.vals) :: bs) X G → Calls Tryd.prog 43 #[.pointer (some ⟨gb, 0, none⟩), .pointer (some ⟨b, 0, none⟩), .agg #[.int .i64 c.sources, .int .i64 c.slack, .int .i64 c.policy, .int .i64 c.room, .int .i64 c.idle, .string c.pat], .int .i64 (srcI c a), .agg #[.int .i64 a.E.src, .int .i64 a.E.seq, .int .i64 a.E.ts, .int .i64 a.E.kind, .int .i64 a.E.val]] u fun e w' => e = .returned (.bool true) ∧ ∃ X' G', OneL w0 w' b gb ((cb, 26, c.vals) :: bs) X' G' ∧ ∃ R', Kp n c X' G' R' := fun u hu => by
          obtain ⟨R', hk'⟩ := HK.out
          exact push_led n b gb c (srcI c a) a.E ((cb, 26, c.vals) :: bs) X G R' w0 u hu hk' HNn.out hn6.2
        generalize srcI c a = A at *
        go_upto_region 11 with fail
        refine upTo_region (fun u : World => u.cell? ⟨cb, 0, none⟩ = some (.int .i64 c.sources) ∧ u.cell? ⟨cb, 1, none⟩ = some (.int .i64 c.slack) ∧ u.cell? ⟨cb, 2, none⟩ = some (.int .i64 c.policy) ∧ u.cell? ⟨cb, 3, none⟩ = some (.int .i64 c.room) ∧ u.cell? ⟨cb, 4, none⟩ = some (.int .i64 c.idle) ∧ u.cell? ⟨cb, 5, none⟩ = some (.string c.pat) ∧ u.cell? ⟨ab, ao + i * 8, none⟩ = some (.int .i64 a.d) ∧ u.cell? ⟨ab, ao + i * 8 + 1, none⟩ = some (.int .i64 a.s) ∧ u.cell? ⟨ab, ao + i * 8 + 2, none⟩ = some (.int .i64 a.n) ∧ u.cell? ⟨ab, ao + i * 8 + 3, none⟩ = some (.int .i64 a.E.src) ∧ u.cell? ⟨ab, ao + i * 8 + 4, none⟩ = some (.int .i64 a.E.seq) ∧ u.cell? ⟨ab, ao + i * 8 + 5, none⟩ = some (.int .i64 a.E.ts) ∧ u.cell? ⟨ab, ao + i * 8 + 6, none⟩ = some (.int .i64 a.E.kind) ∧ u.cell? ⟨ab, ao + i * 8 + 7, none⟩ = some (.int .i64 a.E.val)) 16 16 rfl (by kernel_rfl) ?_
        have hS0 : (fun u : World => u.cell? ⟨cb, 0, none⟩ = some (.int .i64 c.sources) ∧ u.cell? ⟨cb, 1, none⟩ = some (.int .i64 c.slack) ∧ u.cell? ⟨cb, 2, none⟩ = some (.int .i64 c.policy) ∧ u.cell? ⟨cb, 3, none⟩ = some (.int .i64 c.room) ∧ u.cell? ⟨cb, 4, none⟩ = some (.int .i64 c.idle) ∧ u.cell? ⟨cb, 5, none⟩ = some (.string c.pat) ∧ u.cell? ⟨ab, ao + i * 8, none⟩ = some (.int .i64 a.d) ∧ u.cell? ⟨ab, ao + i * 8 + 1, none⟩ = some (.int .i64 a.s) ∧ u.cell? ⟨ab, ao + i * 8 + 2, none⟩ = some (.int .i64 a.n) ∧ u.cell? ⟨ab, ao + i * 8 + 3, none⟩ = some (.int .i64 a.E.src) ∧ u.cell? ⟨ab, ao + i * 8 + 4, none⟩ = some (.int .i64 a.E.seq) ∧ u.cell? ⟨ab, ao + i * 8 + 5, none⟩ = some (.int .i64 a.E.ts) ∧ u.cell? ⟨ab, ao + i * 8 + 6, none⟩ = some (.int .i64 a.E.kind) ∧ u.cell? ⟨ab, ao + i * 8 + 7, none⟩ = some (.int .i64 a.E.val)) wr.drew := ⟨k0, k1, k2, k3, k4, k5, a0, a1, a2, a3, a4, a5, a6, a7⟩
        refine upTo_take2 (i := 0) (v := ?v44_0) rfl (by kernel_rfl) (by kernel_rfl) (by kernel_rfl) rfl (fun _ _ _ h => h) (by rfl) hS0 ?hy44_0 ?rest44_0
        case hy44_0 => (intro u hu; (try dsimp only at hu); go_simp; first | done | with_reducible rfl)
        (try simp only [Act.put, List.setIfInBounds_toArray, List.set_cons_zero, List.set_cons_succ, List.getElem_toArray, List.getElem_cons_succ, List.getElem_cons_zero])
        refine upTo_take2 (i := 1) (v := ?v44_1) rfl (by kernel_rfl) (by kernel_rfl) (by kernel_rfl) rfl (fun _ _ _ h => h) (by rfl) hS0 ?hy44_1 ?rest44_1
        case hy44_1 => (intro u hu; (try dsimp only at hu); go_simp; first | done | with_reducible rfl)
        (try simp only [Act.put, List.setIfInBounds_toArray, List.set_cons_zero, List.set_cons_succ, List.getElem_toArray, List.getElem_cons_succ, List.getElem_cons_zero])
        refine upTo_take2 (i := 2) (v := ?v44_2) rfl (by kernel_rfl) (by kernel_rfl) (by kernel_rfl) rfl (fun _ _ _ h => h) (by rfl) hS0 ?hy44_2 ?rest44_2
        case hy44_2 => (intro u hu; (try dsimp only at hu); go_simp; first | done | with_reducible rfl)
        (try simp only [Act.put, List.setIfInBounds_toArray, List.set_cons_zero, List.set_cons_succ, List.getElem_toArray, List.getElem_cons_succ, List.getElem_cons_zero])
        refine upTo_take2 (i := 3) (v := ?v44_3) rfl (by kernel_rfl) (by kernel_rfl) (by kernel_rfl) rfl (fun _ _ _ h => h) (by rfl) hS0 ?hy44_3 ?rest44_3
        case hy44_3 => (intro u hu; (try dsimp only at hu); go_simp; first | done | with_reducible rfl)
        (try simp only [Act.put, List.setIfInBounds_toArray, List.set_cons_zero, List.set_cons_succ, List.getElem_toArray, List.getElem_cons_succ, List.getElem_cons_zero])
        refine upTo_take2 (i := 4) (v := ?v44_4) rfl (by kernel_rfl) (by kernel_rfl) (by kernel_rfl) rfl (fun _ _ _ h => h) (by rfl) hS0 ?hy44_4 ?rest44_4
        case hy44_4 => (intro u hu; (try dsimp only at hu); go_simp; first | done | with_reducible rfl)
        (try simp only [Act.put, List.setIfInBounds_toArray, List.set_cons_zero, List.set_cons_succ, List.getElem_toArray, List.getElem_cons_succ, List.getElem_cons_zero])
        refine upTo_take2 (i := 5) (v := ?v44_5) rfl (by kernel_rfl) (by kernel_rfl) (by kernel_rfl) rfl (fun _ _ _ h => h) (by rfl) hS0 ?hy44_5 ?rest44_5
        case hy44_5 => (intro u hu; (try dsimp only at hu); go_simp; first | done | with_reducible rfl)
        (try simp only [Act.put, List.setIfInBounds_toArray, List.set_cons_zero, List.set_cons_succ, List.getElem_toArray, List.getElem_cons_succ, List.getElem_cons_zero])
        refine upTo_take2 (i := 6) (v := ?v44_6) rfl (by kernel_rfl) (by kernel_rfl) (by kernel_rfl) rfl (fun _ _ _ h => h) (by rfl) hS0 ?hy44_6 ?rest44_6
        case hy44_6 => (intro u hu; (try dsimp only at hu); go_simp; first | done | with_reducible rfl)
        (try simp only [Act.put, List.setIfInBounds_toArray, List.set_cons_zero, List.set_cons_succ, List.getElem_toArray, List.getElem_cons_succ, List.getElem_cons_zero])
        refine upTo_take2 (i := 7) (v := ?v44_7) rfl (by kernel_rfl) (by kernel_rfl) (by kernel_rfl) rfl (fun _ _ _ h => h) (by rfl) hS0 ?hy44_7 ?rest44_7
        case hy44_7 => (intro u hu; (try dsimp only at hu); go_simp; first | done | with_reducible rfl)
        (try simp only [Act.put, List.setIfInBounds_toArray, List.set_cons_zero, List.set_cons_succ, List.getElem_toArray, List.getElem_cons_succ, List.getElem_cons_zero])
        refine upTo_take2 (i := 9) (v := ?v44_9) rfl (by kernel_rfl) (by kernel_rfl) (by kernel_rfl) rfl (fun _ _ _ h => h) (by rfl) hS0 ?hy44_9 ?rest44_9
        case hy44_9 => (intro u hu; (try dsimp only at hu); go_simp; first | done | with_reducible rfl)
        (try simp only [Act.put, List.setIfInBounds_toArray, List.set_cons_zero, List.set_cons_succ, List.getElem_toArray, List.getElem_cons_succ, List.getElem_cons_zero])
        refine upTo_take2 (i := 10) (v := ?v44_10) rfl (by kernel_rfl) (by kernel_rfl) (by kernel_rfl) rfl (fun _ _ _ h => h) (by rfl) hS0 ?hy44_10 ?rest44_10
        case hy44_10 => (intro u hu; (try dsimp only at hu); go_simp; first | done | with_reducible rfl)
        (try simp only [Act.put, List.setIfInBounds_toArray, List.set_cons_zero, List.set_cons_succ, List.getElem_toArray, List.getElem_cons_succ, List.getElem_cons_zero])
        refine upTo_take2 (i := 11) (v := ?v44_11) rfl (by kernel_rfl) (by kernel_rfl) (by kernel_rfl) rfl (fun _ _ _ h => h) (by rfl) hS0 ?hy44_11 ?rest44_11
        case hy44_11 => (intro u hu; (try dsimp only at hu); go_simp; first | done | with_reducible rfl)
        (try simp only [Act.put, List.setIfInBounds_toArray, List.set_cons_zero, List.set_cons_succ, List.getElem_toArray, List.getElem_cons_succ, List.getElem_cons_zero])
        refine upTo_take2 (i := 12) (v := ?v44_12) rfl (by kernel_rfl) (by kernel_rfl) (by kernel_rfl) rfl (fun _ _ _ h => h) (by rfl) hS0 ?hy44_12 ?rest44_12
        case hy44_12 => (intro u hu; (try dsimp only at hu); go_simp; first | done | with_reducible rfl)
        (try simp only [Act.put, List.setIfInBounds_toArray, List.set_cons_zero, List.set_cons_succ, List.getElem_toArray, List.getElem_cons_succ, List.getElem_cons_zero])
        refine upTo_take2 (i := 13) (v := ?v44_13) rfl (by kernel_rfl) (by kernel_rfl) (by kernel_rfl) rfl (fun _ _ _ h => h) (by rfl) hS0 ?hy44_13 ?rest44_13
        case hy44_13 => (intro u hu; (try dsimp only at hu); go_simp; first | done | with_reducible rfl)
        (try simp only [Act.put, List.setIfInBounds_toArray, List.set_cons_zero, List.set_cons_succ, List.getElem_toArray, List.getElem_cons_succ, List.getElem_cons_zero])
        clear hS0 k0 k1 k2 k3 k4 k5 a0 a1 a2 a3 a4 a5 a6 a7
        refine upTo_one (i := 8) (by kernel_rfl) rfl (fun K hK => ?_)
        go_simp
        refine (hsr _).mono ?_
        rintro e w4 ⟨rfl, hb4⟩
        have HP4 : Hid (OneL w0 w4 b gb ((cb, 26, c.vals) :: bs) X G) := HP.out.below ⟨hb4.os, hb4.tape, hb4.output, hb4.size, hb4.block⟩
        clear hb4 hsr
        have k0 := (HP4.out.bx (cb, 26, c.vals) (by simp)).cell 0
        have k1 := (HP4.out.bx (cb, 26, c.vals) (by simp)).cell 1
        have k2 := (HP4.out.bx (cb, 26, c.vals) (by simp)).cell 2
        have k3 := (HP4.out.bx (cb, 26, c.vals) (by simp)).cell 3
        have k4 := (HP4.out.bx (cb, 26, c.vals) (by simp)).cell 4
        have k5 := (HP4.out.bx (cb, 26, c.vals) (by simp)).cell 5
        simp only [Cfg.vals, List.getElem?_cons_zero, List.getElem?_cons_succ] at k0 k1 k2 k3 k4 k5
        have bb : ∀ o, o < 8 → w4.cell? ⟨ab, ao + i * 8 + o, none⟩ = a.cells[o]? := fun o ho => (HP4.out.bel.cell (p := ⟨ab, ao + i * 8 + o, none⟩) HAL.out.1).trans (HAL.out.2 o ho)
        have a0 := bb 0 (by omega)
        have a1 := bb 1 (by omega)
        have a2 := bb 2 (by omega)
        have a3 := bb 3 (by omega)
        have a4 := bb 4 (by omega)
        have a5 := bb 5 (by omega)
        have a6 := bb 6 (by omega)
        have a7 := bb 7 (by omega)
        simp only [ActR.cells, List.getElem?_cons_zero, List.getElem?_cons_succ, Nat.add_zero] at a0 a1 a2 a3 a4 a5 a6 a7
        clear bb
        refine hK.out _ _ (fun _ => ⟨k0, k1, k2, k3, k4, k5, a0, a1, a2, a3, a4, a5, a6, a7⟩) ?_
        clear hK K
        (try simp only [Act.put, List.setIfInBounds_toArray, List.set_cons_zero, List.set_cons_succ, List.getElem_toArray, List.getElem_cons_succ, List.getElem_cons_zero])
        clear k0 k1 k2 k3 k4 k5 a0 a1 a2 a3 a4 a5 a6 a7
        refine upTo_one (i := 14) (by kernel_rfl) rfl (fun K hK => ?_)
        go_simp
        refine (hpu _ HP4.out).mono ?_
        rintro e w5 ⟨rfl, X5, G5, hp5, hk5⟩
        have HP5 : Hid (OneL w0 w5 b gb ((cb, 26, c.vals) :: bs) X5 G5) := hp5
        have HK5 : Hid (∃ R', Kp n c X5 G5 R') := hk5
        clear hp5 hk5 hpu
        have k0 := (HP5.out.bx (cb, 26, c.vals) (by simp)).cell 0
        have k1 := (HP5.out.bx (cb, 26, c.vals) (by simp)).cell 1
        have k2 := (HP5.out.bx (cb, 26, c.vals) (by simp)).cell 2
        have k3 := (HP5.out.bx (cb, 26, c.vals) (by simp)).cell 3
        have k4 := (HP5.out.bx (cb, 26, c.vals) (by simp)).cell 4
        have k5 := (HP5.out.bx (cb, 26, c.vals) (by simp)).cell 5
        simp only [Cfg.vals, List.getElem?_cons_zero, List.getElem?_cons_succ] at k0 k1 k2 k3 k4 k5
        have bb : ∀ o, o < 8 → w5.cell? ⟨ab, ao + i * 8 + o, none⟩ = a.cells[o]? := fun o ho => (HP5.out.bel.cell (p := ⟨ab, ao + i * 8 + o, none⟩) HAL.out.1).trans (HAL.out.2 o ho)
        have a0 := bb 0 (by omega)
        have a1 := bb 1 (by omega)
        have a2 := bb 2 (by omega)
        have a3 := bb 3 (by omega)
        have a4 := bb 4 (by omega)
        have a5 := bb 5 (by omega)
        have a6 := bb 6 (by omega)
        have a7 := bb 7 (by omega)
        simp only [ActR.cells, List.getElem?_cons_zero, List.getElem?_cons_succ, Nat.add_zero] at a0 a1 a2 a3 a4 a5 a6 a7
        clear bb
        refine hK.out _ _ (fun _ => ⟨k0, k1, k2, k3, k4, k5, a0, a1, a2, a3, a4, a5, a6, a7⟩) ?_
        clear hK K
        (try simp only [Act.put, List.setIfInBounds_toArray, List.set_cons_zero, List.set_cons_succ, List.getElem_toArray, List.getElem_cons_succ, List.getElem_cons_zero])
        refine upTo_one (i := 15) (by kernel_rfl) rfl (fun K hK => ?_)
        go_simp
        refine hK.out _ _ (fun _ => ⟨k0, k1, k2, k3, k4, k5, a0, a1, a2, a3, a4, a5, a6, a7⟩) ?_
        clear hK K
        (try simp only [Act.put, List.setIfInBounds_toArray, List.set_cons_zero, List.set_cons_succ, List.getElem_toArray, List.getElem_cons_succ, List.getElem_cons_zero])
        refine upTo_done (by kernel_rfl) ?_
        clear k0 k1 k2 k3 k4 k5 a0 a1 a2 a3 a4 a5 a6 a7 HP HK HP4
        go_wp2
        go_roundw
        case rel => exact ⟨i + 1, X5, G5, by omega, rfl, by go_num, HP5.out, HK5.out⟩
        case measure => simp [intOf]; omega
      · have hdo : ∀ u, OneL w0 u b gb ((cb, 26, c.vals) :: bs) X G → Calls Tryd.prog 14 #[.pointer (some ⟨b, 0, none⟩), .agg #[.int .i64 c.sources, .int .i64 c.slack, .int .i64 c.policy, .int .i64 c.room, .int .i64 c.idle, .string c.pat], .agg #[.int .i64 a.d, .int .i64 a.s, .int .i64 a.n, .int .i64 a.E.src, .int .i64 a.E.seq, .int .i64 a.E.ts, .int .i64 a.E.kind, .int .i64 a.E.val]] u fun e w' => ∃ z X', e = .returned (.int .i64 z) ∧ OneL w0 w' b gb ((cb, 26, c.vals) :: bs) X' G ∧ ∃ R', Kp n c X' G R' := fun u hu => by
          obtain ⟨R', hk'⟩ := HK.out
          obtain ⟨N, hl⟩ := hk'.lk
          refine (done_rel b c X R' a u hu.mx hl HAo.out (by rw [HNn.out]; omega)).mono ?_
          rintro e w' ⟨z, X', he, hD, hev⟩
          exact ⟨z, X', he, hu.evoX hev, kp_done hk' hD (by rw [← HD.out]; decide) (by rw [← HD.out]; decide) (by rw [← HD.out]; decide)⟩
        go_upto_region 8 with fail
        refine upTo_region (fun u : World => u.cell? ⟨cb, 0, none⟩ = some (.int .i64 c.sources) ∧ u.cell? ⟨cb, 1, none⟩ = some (.int .i64 c.slack) ∧ u.cell? ⟨cb, 2, none⟩ = some (.int .i64 c.policy) ∧ u.cell? ⟨cb, 3, none⟩ = some (.int .i64 c.room) ∧ u.cell? ⟨cb, 4, none⟩ = some (.int .i64 c.idle) ∧ u.cell? ⟨cb, 5, none⟩ = some (.string c.pat) ∧ u.cell? ⟨ab, ao + i * 8, none⟩ = some (.int .i64 a.d) ∧ u.cell? ⟨ab, ao + i * 8 + 1, none⟩ = some (.int .i64 a.s) ∧ u.cell? ⟨ab, ao + i * 8 + 2, none⟩ = some (.int .i64 a.n) ∧ u.cell? ⟨ab, ao + i * 8 + 3, none⟩ = some (.int .i64 a.E.src) ∧ u.cell? ⟨ab, ao + i * 8 + 4, none⟩ = some (.int .i64 a.E.seq) ∧ u.cell? ⟨ab, ao + i * 8 + 5, none⟩ = some (.int .i64 a.E.ts) ∧ u.cell? ⟨ab, ao + i * 8 + 6, none⟩ = some (.int .i64 a.E.kind) ∧ u.cell? ⟨ab, ao + i * 8 + 7, none⟩ = some (.int .i64 a.E.val)) 7 7 rfl (by kernel_rfl) ?_
        have hS0 : (fun u : World => u.cell? ⟨cb, 0, none⟩ = some (.int .i64 c.sources) ∧ u.cell? ⟨cb, 1, none⟩ = some (.int .i64 c.slack) ∧ u.cell? ⟨cb, 2, none⟩ = some (.int .i64 c.policy) ∧ u.cell? ⟨cb, 3, none⟩ = some (.int .i64 c.room) ∧ u.cell? ⟨cb, 4, none⟩ = some (.int .i64 c.idle) ∧ u.cell? ⟨cb, 5, none⟩ = some (.string c.pat) ∧ u.cell? ⟨ab, ao + i * 8, none⟩ = some (.int .i64 a.d) ∧ u.cell? ⟨ab, ao + i * 8 + 1, none⟩ = some (.int .i64 a.s) ∧ u.cell? ⟨ab, ao + i * 8 + 2, none⟩ = some (.int .i64 a.n) ∧ u.cell? ⟨ab, ao + i * 8 + 3, none⟩ = some (.int .i64 a.E.src) ∧ u.cell? ⟨ab, ao + i * 8 + 4, none⟩ = some (.int .i64 a.E.seq) ∧ u.cell? ⟨ab, ao + i * 8 + 5, none⟩ = some (.int .i64 a.E.ts) ∧ u.cell? ⟨ab, ao + i * 8 + 6, none⟩ = some (.int .i64 a.E.kind) ∧ u.cell? ⟨ab, ao + i * 8 + 7, none⟩ = some (.int .i64 a.E.val)) wr.drew := ⟨k0, k1, k2, k3, k4, k5, a0, a1, a2, a3, a4, a5, a6, a7⟩
        refine upTo_take2 (i := 0) (v := ?v45_0) rfl (by kernel_rfl) (by kernel_rfl) (by kernel_rfl) rfl (fun _ _ _ h => h) (by rfl) hS0 ?hy45_0 ?rest45_0
        case hy45_0 => (intro u hu; (try dsimp only at hu); go_simp; first | done | with_reducible rfl)
        (try simp only [Act.put, List.setIfInBounds_toArray, List.set_cons_zero, List.set_cons_succ, List.getElem_toArray, List.getElem_cons_succ, List.getElem_cons_zero])
        refine upTo_take2 (i := 1) (v := ?v45_1) rfl (by kernel_rfl) (by kernel_rfl) (by kernel_rfl) rfl (fun _ _ _ h => h) (by rfl) hS0 ?hy45_1 ?rest45_1
        case hy45_1 => (intro u hu; (try dsimp only at hu); go_simp; first | done | with_reducible rfl)
        (try simp only [Act.put, List.setIfInBounds_toArray, List.set_cons_zero, List.set_cons_succ, List.getElem_toArray, List.getElem_cons_succ, List.getElem_cons_zero])
        refine upTo_take2 (i := 2) (v := ?v45_2) rfl (by kernel_rfl) (by kernel_rfl) (by kernel_rfl) rfl (fun _ _ _ h => h) (by rfl) hS0 ?hy45_2 ?rest45_2
        case hy45_2 => (intro u hu; (try dsimp only at hu); go_simp; first | done | with_reducible rfl)
        (try simp only [Act.put, List.setIfInBounds_toArray, List.set_cons_zero, List.set_cons_succ, List.getElem_toArray, List.getElem_cons_succ, List.getElem_cons_zero])
        refine upTo_take2 (i := 3) (v := ?v45_3) rfl (by kernel_rfl) (by kernel_rfl) (by kernel_rfl) rfl (fun _ _ _ h => h) (by rfl) hS0 ?hy45_3 ?rest45_3
        case hy45_3 => (intro u hu; (try dsimp only at hu); go_simp; first | done | with_reducible rfl)
        (try simp only [Act.put, List.setIfInBounds_toArray, List.set_cons_zero, List.set_cons_succ, List.getElem_toArray, List.getElem_cons_succ, List.getElem_cons_zero])
        refine upTo_take2 (i := 4) (v := ?v45_4) rfl (by kernel_rfl) (by kernel_rfl) (by kernel_rfl) rfl (fun _ _ _ h => h) (by rfl) hS0 ?hy45_4 ?rest45_4
        case hy45_4 => (intro u hu; (try dsimp only at hu); go_simp; first | done | with_reducible rfl)
        (try simp only [Act.put, List.setIfInBounds_toArray, List.set_cons_zero, List.set_cons_succ, List.getElem_toArray, List.getElem_cons_succ, List.getElem_cons_zero])
        refine upTo_take2 (i := 5) (v := ?v45_5) rfl (by kernel_rfl) (by kernel_rfl) (by kernel_rfl) rfl (fun _ _ _ h => h) (by rfl) hS0 ?hy45_5 ?rest45_5
        case hy45_5 => (intro u hu; (try dsimp only at hu); go_simp; first | done | with_reducible rfl)
        (try simp only [Act.put, List.setIfInBounds_toArray, List.set_cons_zero, List.set_cons_succ, List.getElem_toArray, List.getElem_cons_succ, List.getElem_cons_zero])
        clear hS0 k0 k1 k2 k3 k4 k5 a0 a1 a2 a3 a4 a5 a6 a7
        refine upTo_one (i := 6) (by kernel_rfl) rfl (fun K hK => ?_)
        go_simp
        refine (hdo _ (HP.out.below ((Below.refl _ wr).drew))).mono ?_
        rintro e w5 ⟨z, X5, rfl, hp5, hk5⟩
        have HP5 : Hid (OneL w0 w5 b gb ((cb, 26, c.vals) :: bs) X5 G) := hp5
        have HK5 : Hid (∃ R', Kp n c X5 G R') := hk5
        clear hp5 hk5 hdo
        have k0 := (HP5.out.bx (cb, 26, c.vals) (by simp)).cell 0
        have k1 := (HP5.out.bx (cb, 26, c.vals) (by simp)).cell 1
        have k2 := (HP5.out.bx (cb, 26, c.vals) (by simp)).cell 2
        have k3 := (HP5.out.bx (cb, 26, c.vals) (by simp)).cell 3
        have k4 := (HP5.out.bx (cb, 26, c.vals) (by simp)).cell 4
        have k5 := (HP5.out.bx (cb, 26, c.vals) (by simp)).cell 5
        simp only [Cfg.vals, List.getElem?_cons_zero, List.getElem?_cons_succ] at k0 k1 k2 k3 k4 k5
        have bb : ∀ o, o < 8 → w5.cell? ⟨ab, ao + i * 8 + o, none⟩ = a.cells[o]? := fun o ho => (HP5.out.bel.cell (p := ⟨ab, ao + i * 8 + o, none⟩) HAL.out.1).trans (HAL.out.2 o ho)
        have a0 := bb 0 (by omega)
        have a1 := bb 1 (by omega)
        have a2 := bb 2 (by omega)
        have a3 := bb 3 (by omega)
        have a4 := bb 4 (by omega)
        have a5 := bb 5 (by omega)
        have a6 := bb 6 (by omega)
        have a7 := bb 7 (by omega)
        simp only [ActR.cells, List.getElem?_cons_zero, List.getElem?_cons_succ, Nat.add_zero] at a0 a1 a2 a3 a4 a5 a6 a7
        clear bb
        refine hK.out _ _ (fun _ => ⟨k0, k1, k2, k3, k4, k5, a0, a1, a2, a3, a4, a5, a6, a7⟩) ?_
        clear hK K
        (try simp only [Act.put, List.setIfInBounds_toArray, List.set_cons_zero, List.set_cons_succ, List.getElem_toArray, List.getElem_cons_succ, List.getElem_cons_zero])
        refine upTo_done (by kernel_rfl) ?_
        clear k0 k1 k2 k3 k4 k5 a0 a1 a2 a3 a4 a5 a6 a7 HP HK
        go_wp2
        go_roundw
        case rel => exact ⟨i + 1, X5, G, by omega, rfl, by go_num, HP5.out, HK5.out⟩
        case measure => simp [intOf]; omega
      · have hdo : ∀ u, OneL w0 u b gb ((cb, 26, c.vals) :: bs) X G → Calls Tryd.prog 14 #[.pointer (some ⟨b, 0, none⟩), .agg #[.int .i64 c.sources, .int .i64 c.slack, .int .i64 c.policy, .int .i64 c.room, .int .i64 c.idle, .string c.pat], .agg #[.int .i64 a.d, .int .i64 a.s, .int .i64 a.n, .int .i64 a.E.src, .int .i64 a.E.seq, .int .i64 a.E.ts, .int .i64 a.E.kind, .int .i64 a.E.val]] u fun e w' => ∃ z X', e = .returned (.int .i64 z) ∧ OneL w0 w' b gb ((cb, 26, c.vals) :: bs) X' G ∧ ∃ R', Kp n c X' G R' := fun u hu => by
          obtain ⟨R', hk'⟩ := HK.out
          obtain ⟨N, hl⟩ := hk'.lk
          refine (done_rel b c X R' a u hu.mx hl HAo.out (by rw [HNn.out]; omega)).mono ?_
          rintro e w' ⟨z, X', he, hD, hev⟩
          exact ⟨z, X', he, hu.evoX hev, kp_done hk' hD (by rw [← HD.out]; decide) (by rw [← HD.out]; decide) (by rw [← HD.out]; decide)⟩
        go_upto_region 8 with fail
        refine upTo_region (fun u : World => u.cell? ⟨cb, 0, none⟩ = some (.int .i64 c.sources) ∧ u.cell? ⟨cb, 1, none⟩ = some (.int .i64 c.slack) ∧ u.cell? ⟨cb, 2, none⟩ = some (.int .i64 c.policy) ∧ u.cell? ⟨cb, 3, none⟩ = some (.int .i64 c.room) ∧ u.cell? ⟨cb, 4, none⟩ = some (.int .i64 c.idle) ∧ u.cell? ⟨cb, 5, none⟩ = some (.string c.pat) ∧ u.cell? ⟨ab, ao + i * 8, none⟩ = some (.int .i64 a.d) ∧ u.cell? ⟨ab, ao + i * 8 + 1, none⟩ = some (.int .i64 a.s) ∧ u.cell? ⟨ab, ao + i * 8 + 2, none⟩ = some (.int .i64 a.n) ∧ u.cell? ⟨ab, ao + i * 8 + 3, none⟩ = some (.int .i64 a.E.src) ∧ u.cell? ⟨ab, ao + i * 8 + 4, none⟩ = some (.int .i64 a.E.seq) ∧ u.cell? ⟨ab, ao + i * 8 + 5, none⟩ = some (.int .i64 a.E.ts) ∧ u.cell? ⟨ab, ao + i * 8 + 6, none⟩ = some (.int .i64 a.E.kind) ∧ u.cell? ⟨ab, ao + i * 8 + 7, none⟩ = some (.int .i64 a.E.val)) 7 7 rfl (by kernel_rfl) ?_
        have hS0 : (fun u : World => u.cell? ⟨cb, 0, none⟩ = some (.int .i64 c.sources) ∧ u.cell? ⟨cb, 1, none⟩ = some (.int .i64 c.slack) ∧ u.cell? ⟨cb, 2, none⟩ = some (.int .i64 c.policy) ∧ u.cell? ⟨cb, 3, none⟩ = some (.int .i64 c.room) ∧ u.cell? ⟨cb, 4, none⟩ = some (.int .i64 c.idle) ∧ u.cell? ⟨cb, 5, none⟩ = some (.string c.pat) ∧ u.cell? ⟨ab, ao + i * 8, none⟩ = some (.int .i64 a.d) ∧ u.cell? ⟨ab, ao + i * 8 + 1, none⟩ = some (.int .i64 a.s) ∧ u.cell? ⟨ab, ao + i * 8 + 2, none⟩ = some (.int .i64 a.n) ∧ u.cell? ⟨ab, ao + i * 8 + 3, none⟩ = some (.int .i64 a.E.src) ∧ u.cell? ⟨ab, ao + i * 8 + 4, none⟩ = some (.int .i64 a.E.seq) ∧ u.cell? ⟨ab, ao + i * 8 + 5, none⟩ = some (.int .i64 a.E.ts) ∧ u.cell? ⟨ab, ao + i * 8 + 6, none⟩ = some (.int .i64 a.E.kind) ∧ u.cell? ⟨ab, ao + i * 8 + 7, none⟩ = some (.int .i64 a.E.val)) wr.drew := ⟨k0, k1, k2, k3, k4, k5, a0, a1, a2, a3, a4, a5, a6, a7⟩
        refine upTo_take2 (i := 0) (v := ?v46_0) rfl (by kernel_rfl) (by kernel_rfl) (by kernel_rfl) rfl (fun _ _ _ h => h) (by rfl) hS0 ?hy46_0 ?rest46_0
        case hy46_0 => (intro u hu; (try dsimp only at hu); go_simp; first | done | with_reducible rfl)
        (try simp only [Act.put, List.setIfInBounds_toArray, List.set_cons_zero, List.set_cons_succ, List.getElem_toArray, List.getElem_cons_succ, List.getElem_cons_zero])
        refine upTo_take2 (i := 1) (v := ?v46_1) rfl (by kernel_rfl) (by kernel_rfl) (by kernel_rfl) rfl (fun _ _ _ h => h) (by rfl) hS0 ?hy46_1 ?rest46_1
        case hy46_1 => (intro u hu; (try dsimp only at hu); go_simp; first | done | with_reducible rfl)
        (try simp only [Act.put, List.setIfInBounds_toArray, List.set_cons_zero, List.set_cons_succ, List.getElem_toArray, List.getElem_cons_succ, List.getElem_cons_zero])
        refine upTo_take2 (i := 2) (v := ?v46_2) rfl (by kernel_rfl) (by kernel_rfl) (by kernel_rfl) rfl (fun _ _ _ h => h) (by rfl) hS0 ?hy46_2 ?rest46_2
        case hy46_2 => (intro u hu; (try dsimp only at hu); go_simp; first | done | with_reducible rfl)
        (try simp only [Act.put, List.setIfInBounds_toArray, List.set_cons_zero, List.set_cons_succ, List.getElem_toArray, List.getElem_cons_succ, List.getElem_cons_zero])
        refine upTo_take2 (i := 3) (v := ?v46_3) rfl (by kernel_rfl) (by kernel_rfl) (by kernel_rfl) rfl (fun _ _ _ h => h) (by rfl) hS0 ?hy46_3 ?rest46_3
        case hy46_3 => (intro u hu; (try dsimp only at hu); go_simp; first | done | with_reducible rfl)
        (try simp only [Act.put, List.setIfInBounds_toArray, List.set_cons_zero, List.set_cons_succ, List.getElem_toArray, List.getElem_cons_succ, List.getElem_cons_zero])
        refine upTo_take2 (i := 4) (v := ?v46_4) rfl (by kernel_rfl) (by kernel_rfl) (by kernel_rfl) rfl (fun _ _ _ h => h) (by rfl) hS0 ?hy46_4 ?rest46_4
        case hy46_4 => (intro u hu; (try dsimp only at hu); go_simp; first | done | with_reducible rfl)
        (try simp only [Act.put, List.setIfInBounds_toArray, List.set_cons_zero, List.set_cons_succ, List.getElem_toArray, List.getElem_cons_succ, List.getElem_cons_zero])
        refine upTo_take2 (i := 5) (v := ?v46_5) rfl (by kernel_rfl) (by kernel_rfl) (by kernel_rfl) rfl (fun _ _ _ h => h) (by rfl) hS0 ?hy46_5 ?rest46_5
        case hy46_5 => (intro u hu; (try dsimp only at hu); go_simp; first | done | with_reducible rfl)
        (try simp only [Act.put, List.setIfInBounds_toArray, List.set_cons_zero, List.set_cons_succ, List.getElem_toArray, List.getElem_cons_succ, List.getElem_cons_zero])
        clear hS0 k0 k1 k2 k3 k4 k5 a0 a1 a2 a3 a4 a5 a6 a7
        refine upTo_one (i := 6) (by kernel_rfl) rfl (fun K hK => ?_)
        go_simp
        refine (hdo _ (HP.out.below ((Below.refl _ wr).drew))).mono ?_
        rintro e w5 ⟨z, X5, rfl, hp5, hk5⟩
        have HP5 : Hid (OneL w0 w5 b gb ((cb, 26, c.vals) :: bs) X5 G) := hp5
        have HK5 : Hid (∃ R', Kp n c X5 G R') := hk5
        clear hp5 hk5 hdo
        have k0 := (HP5.out.bx (cb, 26, c.vals) (by simp)).cell 0
        have k1 := (HP5.out.bx (cb, 26, c.vals) (by simp)).cell 1
        have k2 := (HP5.out.bx (cb, 26, c.vals) (by simp)).cell 2
        have k3 := (HP5.out.bx (cb, 26, c.vals) (by simp)).cell 3
        have k4 := (HP5.out.bx (cb, 26, c.vals) (by simp)).cell 4
        have k5 := (HP5.out.bx (cb, 26, c.vals) (by simp)).cell 5
        simp only [Cfg.vals, List.getElem?_cons_zero, List.getElem?_cons_succ] at k0 k1 k2 k3 k4 k5
        have bb : ∀ o, o < 8 → w5.cell? ⟨ab, ao + i * 8 + o, none⟩ = a.cells[o]? := fun o ho => (HP5.out.bel.cell (p := ⟨ab, ao + i * 8 + o, none⟩) HAL.out.1).trans (HAL.out.2 o ho)
        have a0 := bb 0 (by omega)
        have a1 := bb 1 (by omega)
        have a2 := bb 2 (by omega)
        have a3 := bb 3 (by omega)
        have a4 := bb 4 (by omega)
        have a5 := bb 5 (by omega)
        have a6 := bb 6 (by omega)
        have a7 := bb 7 (by omega)
        simp only [ActR.cells, List.getElem?_cons_zero, List.getElem?_cons_succ, Nat.add_zero] at a0 a1 a2 a3 a4 a5 a6 a7
        clear bb
        refine hK.out _ _ (fun _ => ⟨k0, k1, k2, k3, k4, k5, a0, a1, a2, a3, a4, a5, a6, a7⟩) ?_
        clear hK K
        (try simp only [Act.put, List.setIfInBounds_toArray, List.set_cons_zero, List.set_cons_succ, List.getElem_toArray, List.getElem_cons_succ, List.getElem_cons_zero])
        refine upTo_done (by kernel_rfl) ?_
        clear k0 k1 k2 k3 k4 k5 a0 a1 a2 a3 a4 a5 a6 a7 HP HK
        go_wp2
        go_roundw
        case rel => exact ⟨i + 1, X5, G, by omega, rfl, by go_num, HP5.out, HK5.out⟩
        case measure => simp [intOf]; omega
      · go_wp2
        go_roundw
        case rel => exact ⟨i + 1, X, G, by omega, rfl, by go_num, HP.out, HK.out⟩
        case measure => simp [intOf]; omega
    · have hnl : ¬ (i : Int) < (acts.length : Int) := by omega
      go_wp2
      go_ret2
      exact ⟨gb, rfl, X, G, HP.out.less (fun x hx => by simp [hx]), HK.out⟩
end Go.Proofs.YtghcololkgeoeaaDoor
