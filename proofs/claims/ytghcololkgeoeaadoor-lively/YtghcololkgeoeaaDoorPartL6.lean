import Derived.Test.YtghcololkgeoeaaDoorPartL5
import Derived.Test.YtghcololkgeoeaaDoorPartK9
namespace Go.Proofs.YtghcololkgeoeaaDoor
open Go.RowKit
set_option linter.unusedVariables false
set_option linter.unusedSimpArgs false
attribute [local go_sem ↓] Go.wp_at_zero Go.wp_at_succ

theorem near_in {t : Int} (h : -1099511627776 ≤ t ∧ t ≤ 1099511627776) : beyondB t = false := by simp [beyondB]; omega
set_option maxRecDepth 100000 in
set_option maxHeartbeats 16000000 in
theorem lively_walk (r : RawC) (sa : Option Addr) (sc : Nat) (acts : List ActR) (t : Int) (wsa : Option Addr) (wsc : Nat) (ways : List Int) (w : World) (hr : r.ok) (hsa : ActsAt w sa acts) (hlen : acts.length ≤ 9000000000000000) (ht : I64 t) (hwa : IntsAt w wsa ways) (hwl : ways.length ≤ 9000000000000000) (htab : ∀ u, Below w.heap.size w u → tab10 u) :
    Calls Tryd.prog 6 #[.agg #[.int .i64 r.sources, .int .i64 r.slack, .int .i64 r.policy, .int .i64 r.room, .int .i64 r.idle, .int .i64 r.pattern], .slice sa acts.length sc, .int .i64 t, .slice wsa ways.length wsc] w fun e w' => e = .returned (.bool true) ∧ Below w.heap.size w w' := by
  obtain ⟨j0, hj0, hy0, hy1, hy2⟩ := info_parts Tryd.infoEv
  have HSA : Hid (ActsAt w sa acts) := hsa
  have HWA : Hid (IntsAt w wsa ways) := hwa
  have hpk : ∀ u, Calls Tryd.prog 23 #[.int .i64 t, .int .i64 2199023255553] u fun e w' => e = .returned (.int .i64 (pk t 2199023255553)) ∧ u = w' := fun u => pick_any _ _ u ht (by omega) (by omega)
  have hpr := pk_range (c := t) (n := 2199023255553) (by omega)
  clear hsa hwa hwl ht
  obtain ⟨c, HC⟩ := hex r.cfg
  have HOK : Hid c.ok := by show c.ok; rw [HC.out]; exact r.cfg_ok
  obtain ⟨n, hn⟩ : ∃ n : Nat, c.sources = n := ⟨c.sources.toNat, by have := HOK.out.1.1; omega⟩
  have HNn : Hid (c.sources = n) := hn
  have hn6 : 1 ≤ n ∧ n ≤ 6 := by have := HOK.out.1.1; have := HOK.out.1.2.1; omega
  have hcf : ∀ u, Below w.heap.size w u → Calls Tryd.prog 10 #[.agg #[.int .i64 r.sources, .int .i64 r.slack, .int .i64 r.policy, .int .i64 r.room, .int .i64 r.idle, .int .i64 r.pattern]] u fun e w' => e = .returned (.agg #[.int .i64 c.sources, .int .i64 c.slack, .int .i64 c.policy, .int .i64 c.room, .int .i64 c.idle, .string c.pat]) ∧ Below u.heap.size u w' := fun u hu => by rw [HC.out]; exact config_any r u hr (fun v hv => htab v (hu.trans (hv.mono hu.size)))
  have HMd : Hid (∀ u, Calls Tryd.prog 11 #[.agg #[.int .i64 c.sources, .int .i64 c.slack, .int .i64 c.policy, .int .i64 c.room, .int .i64 c.idle, .string c.pat]] u fun e w' => ∃ b sg sc p, e = .returned (.tuple #[.pointer (some ⟨b, 0, none⟩), .bool true]) ∧ MemX w' b (newEng c n sg sc p) ∧ (∀ k, some k ∈ (newEng c n sg sc p).fp b → u.heap.size ≤ k) ∧ Below u.heap.size u w') := fun u => made_any n c u hn HOK.out
  have HFl : Hid (∀ u, Calls Tryd.prog 18 #[.agg #[.int .i64 c.sources, .int .i64 c.slack, .int .i64 c.policy, .int .i64 c.room, .int .i64 c.idle, .string c.pat]] u fun e w' => e = .returned (.bool true) ∧ Below u.heap.size u w') := fun u => flows_true n c u hn HOK.out
  clear hn htab hr HC
  have H0 : Hid (Below w.heap.size w (w.alloc (.cells #[.int .i64 r.sources, .int .i64 r.slack, .int .i64 r.policy, .int .i64 r.room, .int .i64 r.idle, .int .i64 r.pattern] 23))) := (Below.refl _ _).alloc (Nat.le_refl _) _
  go_enter Tryd.func6, Tryd.ntmps6
  go_upto_region 2 with (go_at_call 10; refine (hcf _ H0.out).mono ?_; rintro e w1 ⟨rfl, hb1⟩)
  have HB1 : Hid (Below w.heap.size w w1) := H0.out.trans (hb1.mono (by simp))
  clear hcf hb1 H0
  obtain ⟨w2, HW2⟩ := hex (w1.alloc (.cells c.vals.toArray 26))
  have hw2 : w1.alloc (.cells #[.int .i64 c.sources, .int .i64 c.slack, .int .i64 c.policy, .int .i64 c.room, .int .i64 c.idle, .string c.pat] 26) = w2 := HW2.out.symm
  rw [hw2]
  obtain ⟨cb, HCb⟩ := hex w1.heap.size
  have HC2 : Hid (Blk w2 cb 26 c.vals) := by show Blk _ _ _ _; rw [HW2.out, HCb.out]; exact blk_alloc _ _ _
  have HB2 : Hid (Below w.heap.size w w2) := by show Below _ _ _; rw [HW2.out]; exact HB1.out.alloc HB1.out.size _
  rw [← HCb.out]
  clear hw2 HW2 HCb HB1
  have k0 := (HC2.out).cell 0
  have k1 := (HC2.out).cell 1
  have k2 := (HC2.out).cell 2
  have k3 := (HC2.out).cell 3
  have k4 := (HC2.out).cell 4
  have k5 := (HC2.out).cell 5
  simp only [Cfg.vals, List.getElem?_cons_zero, List.getElem?_cons_succ] at k0 k1 k2 k3 k4 k5
  go_upto_region 5 with (go_at_call 11; refine (HMd.out _).mono ?_; rintro e w3 ⟨b, sg, scc, pv, rfl, hM, hf, hb⟩)
  have HC3 : Hid (Blk w3 cb 26 c.vals) := HC2.out.below hb HC2.out.lt
  have hwr : Calls Tryd.prog 19 #[.pointer (some ⟨b, 0, none⟩), .agg #[.int .i64 c.sources, .int .i64 c.slack, .int .i64 c.policy, .int .i64 c.room, .int .i64 c.idle, .string c.pat], .slice sa acts.length sc] w3 fun e w' => ∃ gb, e = .returned (.tuple #[.pointer (some ⟨gb, 0, none⟩), .bool true]) ∧ ∃ X' G', OneL w w' b gb [(cb, 26, c.vals)] X' G' ∧ ∃ R', Kp n c X' G' R' := by
    refine written_any n b c sa sc acts [(cb, 26, c.vals)] (newEng c n sg scc pv) (newRef c n none 0 0) w w3 hM (HB2.out.trans (hb.mono HB2.out.size)) (fun k hk => Nat.le_trans HB2.out.size (hf k hk)) ?_ ?_ (kp_new HNn.out HOK.out) HNn.out hn6 HSA.out hlen
    · intro x hx; simp only [List.mem_cons, List.not_mem_nil, or_false] at hx; subst hx; exact HC3.out
    · intro x hx e; simp only [List.mem_cons, List.not_mem_nil, or_false] at hx; subst hx; have := hf _ e; have := HC2.out.lt; omega
  clear hM hf hb k0 k1 k2 k3 k4 k5
  have k0 := (HC3.out).cell 0
  have k1 := (HC3.out).cell 1
  have k2 := (HC3.out).cell 2
  have k3 := (HC3.out).cell 3
  have k4 := (HC3.out).cell 4
  have k5 := (HC3.out).cell 5
  simp only [Cfg.vals, List.getElem?_cons_zero, List.getElem?_cons_succ] at k0 k1 k2 k3 k4 k5
  go_upto_region 8 with (go_at_call 19; refine hwr.mono ?_; rintro e w4 ⟨gb, rfl, X4, G, hp4, hk4⟩)
  have HP4 : Hid (OneL w w4 b gb [(cb, 26, c.vals)] X4 G) := hp4
  have HK4 : Hid (∃ R', Kp n c X4 G R') := hk4
  clear hwr hp4 hk4 k0 k1 k2 k3 k4 k5 HC2 HC3 HB2 HMd
  obtain ⟨tt, HTT⟩ := hex (pk t 2199023255553 - 1099511627776)
  have HTb : Hid (beyondB tt = false) := near_in (by rw [HTT.out]; omega)
  have hwrp : IntKind.i64.wrap (pk t 2199023255553 - 1099511627776) = tt := by rw [IntKind.wrap_i64, HTT.out]; omega
  go_upto_region 9 with (go_at_call 23; refine (hpk _).mono ?_; rintro e w' ⟨rfl, rfl⟩)
  clear hpk hpr hwrp HTT
  have k0 := (HP4.out.bx (cb, 26, c.vals) (by simp)).cell 0
  have k1 := (HP4.out.bx (cb, 26, c.vals) (by simp)).cell 1
  have k2 := (HP4.out.bx (cb, 26, c.vals) (by simp)).cell 2
  have k3 := (HP4.out.bx (cb, 26, c.vals) (by simp)).cell 3
  have k4 := (HP4.out.bx (cb, 26, c.vals) (by simp)).cell 4
  have k5 := (HP4.out.bx (cb, 26, c.vals) (by simp)).cell 5
  simp only [Cfg.vals, List.getElem?_cons_zero, List.getElem?_cons_succ] at k0 k1 k2 k3 k4 k5
  have hci : 0 ≤ c.idle ∧ c.idle ≤ 1000 := by have h := HOK.out.1; unfold Cfg.fits at h; omega
  by_cases hc0 : 0 < c.idle
  · have htk : ∀ u, OneL w u b gb [(cb, 26, c.vals)] X4 G → Calls Tryd.prog 27 #[.pointer (some ⟨b, 0, none⟩), .int .i64 c.idle] u fun e w' => e = .returned (.int .i64 0) ∧ ∃ X', OneL w w' b gb [(cb, 26, c.vals)] X' G ∧ Lv n c G tt 0 X' := fun u hu => by
      obtain ⟨R, hk⟩ := HK4.out
      obtain ⟨N, hl⟩ := hk.lk
      refine (xtick_rel c.idle hl u hu.mx).mono ?_
      rintro e w' ⟨z, X', he, hP, hev⟩
      obtain ⟨rfl, h2⟩ := tick_idle hl hk.c hc0 hci.2 hP
      exact ⟨he, X', hu.evoX hev, ⟨fun j p hj => absurd hj (by omega), fun _ j p _ hp hin => h2 j p hp hin, Or.inr (fun j p hj => absurd hj (by omega)), kp_tick hk hP⟩⟩
    go_upto_region 13 with (go_at_call 27; refine (htk _ HP4.out).mono ?_; rintro e w5 ⟨rfl, X5, hp5, hl5⟩)
    have HP5 : Hid (OneL w w5 b gb [(cb, 26, c.vals)] X5 G) := hp5
    have HL5 : Hid (Lv n c G tt 0 X5) := hl5
    clear htk hp5 hl5 k0 k1 k2 k3 k4 k5 HP4 HK4 hc0
    go_wp2
    go_loopw [14] (fun sv wr => ∃ (s : Nat) (X : Eng), s ≤ n ∧ sv = .int .i64 s ∧ OneL w wr b gb [(cb, 26, c.vals)] X G ∧ Lv n c G tt s X) (fun sv _ => n - (intOf sv).toNat)
    case atStart => exact ⟨0, X5, Nat.zero_le _, rfl, HP5.out, HL5.out⟩
    case round =>
      obtain ⟨s, X, hsn, rfl, hp, hlv⟩ := hrel
      have HP : Hid (OneL w wr b gb [(cb, 26, c.vals)] X G) := hp
      have HLv : Hid (Lv n c G tt s X) := hlv
      clear hp hlv HP5 HL5
      have k0 := (HP.out.bx (cb, 26, c.vals) (by simp)).cell 0
      have k1 := (HP.out.bx (cb, 26, c.vals) (by simp)).cell 1
      have k2 := (HP.out.bx (cb, 26, c.vals) (by simp)).cell 2
      have k3 := (HP.out.bx (cb, 26, c.vals) (by simp)).cell 3
      have k4 := (HP.out.bx (cb, 26, c.vals) (by simp)).cell 4
      have k5 := (HP.out.bx (cb, 26, c.vals) (by simp)).cell 5
      simp only [Cfg.vals, List.getElem?_cons_zero, List.getElem?_cons_succ] at k0 k1 k2 k3 k4 k5
      rw [HNn.out] at k0
      by_cases hlt : s < n
      · have hlt' : (s : Int) < (n : Int) := by omega
        obtain ⟨R, hk⟩ := HLv.out.kp
        obtain ⟨N, hl⟩ := hk.lk
        have hsl : s < X.srcs.length := by rw [hk.n]; exact hlt
        obtain ⟨p, HPe⟩ := hex X.srcs[s]
        have HPs : Hid (X.srcs[s]? = some p) := by show _ = _; rw [HPe.out]; exact List.getElem?_eq_getElem hsl
        have hso : ∀ u, MemX u b X → Calls Tryd.prog 28 #[.pointer (some ⟨b, 0, none⟩), .int .i64 s] u fun e w' => e = .returned (.tuple #[.agg #[.bool p.inn, .bool p.idle, .int .i64 p.mark, .int .i64 (X.waitOf s), .int .i64 p.last], .int .i64 0]) ∧ Below u.heap.size u w' := fun u hu => by
          have ht : X.tell s = ⟨p.inn, p.idle, p.mark, X.waitOf s, p.last, 0⟩ := by
            unfold Eng.tell
            rw [if_neg (by omega), show (s : Int).toNat = s by omega, HPs.out]
          have := xsource_any b X s hl.sane u hu
          rw [ht] at this
          exact this
        have hlv : ∀ u bs, OneL w u b gb bs X G → p.inn = true → Calls Tryd.prog 29 #[.pointer (some ⟨b, 0, none⟩), .int .i64 s] u fun e w' => e = .returned (.int .i64 0) ∧ ∃ X', OneL w w' b gb bs X' G ∧ Lv n c G tt (s + 1) X' := fun u bs hu hin => by
          refine (xleave_rel s hl u hu.mx).mono ?_
          rintro e w' ⟨z, X', he, hP, hev⟩
          obtain ⟨rfl, h2⟩ := HLv.out.leave HPs.out hin hP
          exact ⟨he, X', hu.evoX hev, h2⟩
        have hpt : ∀ u bs, OneL w u b gb bs X G → p.inn = true → Calls Tryd.prog 30 #[.pointer (some ⟨b, 0, none⟩), .int .i64 s, .int .i64 tt] u fun e w' => e = .returned (.int .i64 0) ∧ ∃ X', OneL w w' b gb bs X' G ∧ Lv n c G tt (s + 1) X' := fun u bs hu hin => by
          refine (xpuncts_rel s tt hl u hu.mx).mono ?_
          rintro e w' ⟨z, X', he, hP, hev⟩
          obtain ⟨rfl, h2⟩ := HLv.out.punct HPs.out hin HTb.out hP
          exact ⟨he, X', hu.evoX hev, h2⟩
        have HHi : Hid (0 < c.idle → p.inn = true → p.idle = true) := fun h0 hin => HLv.out.hi h0 s p (Nat.le_refl _) HPs.out hin
        have HZi : Hid (¬ 0 < c.idle → p.idle = false) := fun h0 => zero_idle hl hk.c h0 s p HPs.out
        clear hl hk hsl HPe
        go_upto_region 17 with (go_at_call 28; refine (hso _ HP.out.mx).mono ?_; rintro e w4 ⟨rfl, hb4⟩)
        obtain ⟨wk, HWk⟩ := hex (w4.alloc (.cells [.bool p.inn, .bool p.idle, .int .i64 p.mark, .int .i64 (X.waitOf s), .int .i64 p.last].toArray 60))
        obtain ⟨kb, HKb⟩ := hex w4.heap.size
        have hwk : w4.alloc (.cells #[.bool p.inn, .bool p.idle, .int .i64 p.mark, .int .i64 (X.waitOf s), .int .i64 p.last] 60) = wk := HWk.out.symm
        have HPk : Hid (OneL w wk b gb ((kb, 60, [.bool p.inn, .bool p.idle, .int .i64 p.mark, .int .i64 (X.waitOf s), .int .i64 p.last]) :: [(cb, 26, c.vals)]) X G) := by
          show OneL _ _ _ _ _ _ _
          rw [HWk.out, HKb.out]
          exact (HP.out.below hb4).more 60 [.bool p.inn, .bool p.idle, .int .i64 p.mark, .int .i64 (X.waitOf s), .int .i64 p.last]
        rw [hwk, ← HKb.out]
        clear hwk HWk HKb hb4 hso HP k0 k1 k2 k3 k4 k5
        have k4 := (HPk.out.bx (cb, 26, c.vals) (by simp)).cell 4
        simp only [Cfg.vals, List.getElem?_cons_zero, List.getElem?_cons_succ] at k4
        have s0 := (HPk.out.bx (kb, 60, [.bool p.inn, .bool p.idle, .int .i64 p.mark, .int .i64 (X.waitOf s), .int .i64 p.last]) (by simp)).cell 0
        have s1 := (HPk.out.bx (kb, 60, [.bool p.inn, .bool p.idle, .int .i64 p.mark, .int .i64 (X.waitOf s), .int .i64 p.last]) (by simp)).cell 1
        simp only [List.getElem?_cons_zero, List.getElem?_cons_succ] at s0 s1
        cases hin : p.inn with
        | false =>
          have HIn : Hid (p.inn = false) := hin
          rw [hin] at s0
          clear hin hlv hpt
          by_cases hc0 : 0 < c.idle
          · have HSk : Hid (Lv n c G tt (s + 1) X) := HLv.out.skip HPs.out (Or.inl HIn.out)
            by_cases hwl : s < ways.length
            · have hwl' : (s : Int) < (ways.length : Int) := by omega
              have hs00 : (0 : Int) ≤ (s : Int) := by omega
              obtain ⟨hio, ib, io, hsab, hal, hac⟩ := HWA.out s hwl
              obtain ⟨q, HQq⟩ := hex ways[s]
              rw [← HQq.out] at hio hac
              have hpk3 : ∀ u, Calls Tryd.prog 23 #[.int .i64 q, .int .i64 3] u fun e w' => e = .returned (.int .i64 (pk q 3)) ∧ u = w' := fun u => pick_any _ _ u hio (by omega) (by omega)
              have hqr := pk_range (c := q) (n := 3) (by omega)
              generalize pk q 3 = d at *
              have hcl := (HPk.out.bel.cell (p := ⟨ib, io + s, none⟩) hal).trans hac
              subst hsab
              clear hal hac hio
              go_upto_region 22 with (go_at_call 23; refine (hpk3 _).mono ?_; rintro e w' ⟨rfl, rfl⟩)
              clear hpk3 hqr hcl
              go_wp2
              go_roundw
              case rel => exact ⟨s + 1, X, by omega, by go_num, HPk.out.less (fun x hx => by simp [hx]), HSk.out⟩
              case measure => simp [intOf]; omega
            · have hwn : ¬ (s : Int) < (ways.length : Int) := by omega
              go_wp2
              go_roundw
              case rel => exact ⟨s + 1, X, by omega, by go_num, HPk.out.less (fun x hx => by simp [hx]), HSk.out⟩
              case measure => simp [intOf]; omega
          · have HSk : Hid (Lv n c G tt (s + 1) X) := HLv.out.skip HPs.out (Or.inl HIn.out)
            by_cases hwl : s < ways.length
            · have hwl' : (s : Int) < (ways.length : Int) := by omega
              have hs00 : (0 : Int) ≤ (s : Int) := by omega
              obtain ⟨hio, ib, io, hsab, hal, hac⟩ := HWA.out s hwl
              obtain ⟨q, HQq⟩ := hex ways[s]
              rw [← HQq.out] at hio hac
              have hpk3 : ∀ u, Calls Tryd.prog 23 #[.int .i64 q, .int .i64 3] u fun e w' => e = .returned (.int .i64 (pk q 3)) ∧ u = w' := fun u => pick_any _ _ u hio (by omega) (by omega)
              have hqr := pk_range (c := q) (n := 3) (by omega)
              generalize pk q 3 = d at *
              have hcl := (HPk.out.bel.cell (p := ⟨ib, io + s, none⟩) hal).trans hac
              subst hsab
              clear hal hac hio
              go_upto_region 22 with (go_at_call 23; refine (hpk3 _).mono ?_; rintro e w' ⟨rfl, rfl⟩)
              clear hpk3 hqr hcl
              go_wp2
              go_roundw
              case rel => exact ⟨s + 1, X, by omega, by go_num, HPk.out.less (fun x hx => by simp [hx]), HSk.out⟩
              case measure => simp [intOf]; omega
            · have hwn : ¬ (s : Int) < (ways.length : Int) := by omega
              go_wp2
              go_roundw
              case rel => exact ⟨s + 1, X, by omega, by go_num, HPk.out.less (fun x hx => by simp [hx]), HSk.out⟩
              case measure => simp [intOf]; omega
        | true =>
          rw [hin] at s0
          by_cases hc0 : 0 < c.idle
          · have hid := HHi.out hc0 hin
            have HId : Hid (p.idle = true) := hid
            rw [hid] at s1
            replace hlv := fun u hu => hlv u ((kb, 60, [.bool p.inn, .bool p.idle, .int .i64 p.mark, .int .i64 (X.waitOf s), .int .i64 p.last]) :: [(cb, 26, c.vals)]) hu hin
            replace hpt := fun u hu => hpt u ((kb, 60, [.bool p.inn, .bool p.idle, .int .i64 p.mark, .int .i64 (X.waitOf s), .int .i64 p.last]) :: [(cb, 26, c.vals)]) hu hin
            clear hin hid
            by_cases hwl : s < ways.length
            · have hwl' : (s : Int) < (ways.length : Int) := by omega
              have hs00 : (0 : Int) ≤ (s : Int) := by omega
              obtain ⟨hio, ib, io, hsab, hal, hac⟩ := HWA.out s hwl
              obtain ⟨q, HQq⟩ := hex ways[s]
              rw [← HQq.out] at hio hac
              have hpk3 : ∀ u, Calls Tryd.prog 23 #[.int .i64 q, .int .i64 3] u fun e w' => e = .returned (.int .i64 (pk q 3)) ∧ u = w' := fun u => pick_any _ _ u hio (by omega) (by omega)
              have hqr := pk_range (c := q) (n := 3) (by omega)
              generalize pk q 3 = d at *
              have hcl := (HPk.out.bel.cell (p := ⟨ib, io + s, none⟩) hal).trans hac
              subst hsab
              clear hal hac hio
              go_upto_region 22 with (go_at_call 23; refine (hpk3 _).mono ?_; rintro e w' ⟨rfl, rfl⟩)
              clear hpk3 hcl
              have hd : d = 0 ∨ d = 1 ∨ d = 2 := by omega
              clear hqr
              rcases hd with rfl | rfl | rfl
              · go_upto_region 26 with (go_at_call 29; refine (hlv _ HPk.out).mono ?_; rintro e w6 ⟨rfl, X6, hp6, hl6⟩)
                have HP6 : Hid (OneL w w6 b gb [(cb, 26, c.vals)] X6 G) := hp6.less (fun x hx => by simp only [List.mem_cons, List.not_mem_nil, or_false] at hx ⊢; exact Or.inr hx)
                have HL6 : Hid (Lv n c G tt (s + 1) X6) := hl6
                clear hp6 hl6 hlv hpt
                go_wp2
                go_roundw
                case rel => exact ⟨s + 1, X6, by omega, by go_num, HP6.out, HL6.out⟩
                case measure => simp [intOf]; omega
              · go_upto_region 26 with (go_at_call 30; refine (hpt _ HPk.out).mono ?_; rintro e w6 ⟨rfl, X6, hp6, hl6⟩)
                have HP6 : Hid (OneL w w6 b gb [(cb, 26, c.vals)] X6 G) := hp6.less (fun x hx => by simp only [List.mem_cons, List.not_mem_nil, or_false] at hx ⊢; exact Or.inr hx)
                have HL6 : Hid (Lv n c G tt (s + 1) X6) := hl6
                clear hp6 hl6 hlv hpt
                go_wp2
                go_roundw
                case rel => exact ⟨s + 1, X6, by omega, by go_num, HP6.out, HL6.out⟩
                case measure => simp [intOf]; omega
              · have HSk : Hid (Lv n c G tt (s + 1) X) := HLv.out.skip HPs.out (Or.inr HId.out)
                go_wp2
                go_roundw
                case rel => exact ⟨s + 1, X, by omega, by go_num, HPk.out.less (fun x hx => by simp [hx]), HSk.out⟩
                case measure => simp [intOf]; omega
            · have hwn : ¬ (s : Int) < (ways.length : Int) := by omega
              go_upto_region 26 with (go_at_call 29; refine (hlv _ HPk.out).mono ?_; rintro e w6 ⟨rfl, X6, hp6, hl6⟩)
              have HP6 : Hid (OneL w w6 b gb [(cb, 26, c.vals)] X6 G) := hp6.less (fun x hx => by simp only [List.mem_cons, List.not_mem_nil, or_false] at hx ⊢; exact Or.inr hx)
              have HL6 : Hid (Lv n c G tt (s + 1) X6) := hl6
              clear hp6 hl6 hlv hpt
              go_wp2
              go_roundw
              case rel => exact ⟨s + 1, X6, by omega, by go_num, HP6.out, HL6.out⟩
              case measure => simp [intOf]; omega
          · have hid := HZi.out (by omega)
            rw [hid] at s1
            replace hlv := fun u hu => hlv u ((kb, 60, [.bool p.inn, .bool p.idle, .int .i64 p.mark, .int .i64 (X.waitOf s), .int .i64 p.last]) :: [(cb, 26, c.vals)]) hu hin
            replace hpt := fun u hu => hpt u ((kb, 60, [.bool p.inn, .bool p.idle, .int .i64 p.mark, .int .i64 (X.waitOf s), .int .i64 p.last]) :: [(cb, 26, c.vals)]) hu hin
            clear hin hid
            by_cases hwl : s < ways.length
            · have hwl' : (s : Int) < (ways.length : Int) := by omega
              have hs00 : (0 : Int) ≤ (s : Int) := by omega
              obtain ⟨hio, ib, io, hsab, hal, hac⟩ := HWA.out s hwl
              obtain ⟨q, HQq⟩ := hex ways[s]
              rw [← HQq.out] at hio hac
              have hpk3 : ∀ u, Calls Tryd.prog 23 #[.int .i64 q, .int .i64 3] u fun e w' => e = .returned (.int .i64 (pk q 3)) ∧ u = w' := fun u => pick_any _ _ u hio (by omega) (by omega)
              have hqr := pk_range (c := q) (n := 3) (by omega)
              generalize pk q 3 = d at *
              have hcl := (HPk.out.bel.cell (p := ⟨ib, io + s, none⟩) hal).trans hac
              subst hsab
              clear hal hac hio
              go_upto_region 22 with (go_at_call 23; refine (hpk3 _).mono ?_; rintro e w' ⟨rfl, rfl⟩)
              clear hpk3 hcl
              have hd : d = 0 ∨ d = 1 ∨ d = 2 := by omega
              clear hqr
              rcases hd with rfl | rfl | rfl
              · go_upto_region 26 with (go_at_call 29; refine (hlv _ HPk.out).mono ?_; rintro e w6 ⟨rfl, X6, hp6, hl6⟩)
                have HP6 : Hid (OneL w w6 b gb [(cb, 26, c.vals)] X6 G) := hp6.less (fun x hx => by simp only [List.mem_cons, List.not_mem_nil, or_false] at hx ⊢; exact Or.inr hx)
                have HL6 : Hid (Lv n c G tt (s + 1) X6) := hl6
                clear hp6 hl6 hlv hpt
                go_wp2
                go_roundw
                case rel => exact ⟨s + 1, X6, by omega, by go_num, HP6.out, HL6.out⟩
                case measure => simp [intOf]; omega
              · go_upto_region 26 with (go_at_call 30; refine (hpt _ HPk.out).mono ?_; rintro e w6 ⟨rfl, X6, hp6, hl6⟩)
                have HP6 : Hid (OneL w w6 b gb [(cb, 26, c.vals)] X6 G) := hp6.less (fun x hx => by simp only [List.mem_cons, List.not_mem_nil, or_false] at hx ⊢; exact Or.inr hx)
                have HL6 : Hid (Lv n c G tt (s + 1) X6) := hl6
                clear hp6 hl6 hlv hpt
                go_wp2
                go_roundw
                case rel => exact ⟨s + 1, X6, by omega, by go_num, HP6.out, HL6.out⟩
                case measure => simp [intOf]; omega
              · go_upto_region 26 with (go_at_call 30; refine (hpt _ HPk.out).mono ?_; rintro e w6 ⟨rfl, X6, hp6, hl6⟩)
                have HP6 : Hid (OneL w w6 b gb [(cb, 26, c.vals)] X6 G) := hp6.less (fun x hx => by simp only [List.mem_cons, List.not_mem_nil, or_false] at hx ⊢; exact Or.inr hx)
                have HL6 : Hid (Lv n c G tt (s + 1) X6) := hl6
                clear hp6 hl6 hlv hpt
                go_wp2
                go_roundw
                case rel => exact ⟨s + 1, X6, by omega, by go_num, HP6.out, HL6.out⟩
                case measure => simp [intOf]; omega
            · have hwn : ¬ (s : Int) < (ways.length : Int) := by omega
              go_upto_region 26 with (go_at_call 29; refine (hlv _ HPk.out).mono ?_; rintro e w6 ⟨rfl, X6, hp6, hl6⟩)
              have HP6 : Hid (OneL w w6 b gb [(cb, 26, c.vals)] X6 G) := hp6.less (fun x hx => by simp only [List.mem_cons, List.not_mem_nil, or_false] at hx ⊢; exact Or.inr hx)
              have HL6 : Hid (Lv n c G tt (s + 1) X6) := hl6
              clear hp6 hl6 hlv hpt
              go_wp2
              go_roundw
              case rel => exact ⟨s + 1, X6, by omega, by go_num, HP6.out, HL6.out⟩
              case measure => simp [intOf]; omega
      · obtain rfl : s = n := by omega
        have hnl : ¬ (s : Int) < (s : Int) := by omega
        obtain ⟨P, hpre, hsrt, hprm, hap, hsane, hgl⟩ := lively_end HLv.out
        have HEnd : Hid (P <+: X.log ∧ Srt P ∧ P.Perm (G.all.filter (fun e => decide (e.ts < tt))) ∧ (G.all.filter (fun e => decide (e.ts < tt))).Pairwise Apart2 ∧ SaneX X) := ⟨hpre, hsrt, hprm, hap, hsane⟩
        clear hpre hsrt hprm hap hsane HLv k1 k2 k3 k4 k5
        obtain ⟨wB, HWB⟩ := hex wr
        rw [← HWB.out]
        rw [← HWB.out] at HP k0
        clear HWB
        go_wp2
        clear k0
        go_loopw [18, 19] (fun wv iv wx => ∃ (i : Nat) (W : List Ev) (wa : Option Addr) (wc : Nat), i ≤ G.all.length ∧ wv = .slice wa W.length wc ∧ iv = .int .i64 i ∧ W = (G.all.take i).filter (fun e => decide (e.ts < tt)) ∧ wx.ownsRow wB.heap.size 37 5 (.slice wa W.length wc) W.length (evs W) ∧ Below wB.heap.size wB wx) (fun _ iv _ => G.all.length - (intOf iv).toNat)
        case atStart => exact ⟨0, [], none, 0, Nat.zero_le _, rfl, rfl, by simp, World.ownsRow_nil _ _ _ _, Below.refl _ _⟩
        case round =>
          obtain ⟨i, W, wa, wc, hi, rfl, rfl, hW, hown, hB⟩ := hrel
          have HW : Hid (W = (G.all.take i).filter (fun e => decide (e.ts < tt))) := hW
          have HO : Hid (wr.ownsRow wB.heap.size 37 5 (.slice wa W.length wc) W.length (evs W)) := hown
          have HBx : Hid (Below wB.heap.size wB wr) := hB
          have hWl : W.length ≤ 200 := by rw [HW.out]; have := List.length_filter_le (fun e : Ev => decide (e.ts < tt)) (G.all.take i); have := List.length_take_le i G.all; omega
          clear hW hown hB
          have HPx : Hid (OneL w wr b gb [(cb, 26, c.vals)] X G) := HP.out.below HBx.out
          have g0 : wr.cell? ⟨gb, 0, none⟩ = some (.slice G.aa G.all.length G.ac) := HPx.out.ml.blk.cell 0
          by_cases hlt : i < G.all.length
          · have hlt' : (i : Int) < (G.all.length : Int) := by omega
            have hi00 : (0 : Int) ≤ (i : Int) := by omega
            obtain ⟨g, hg, hnc, y0, y1, y2, y3, y4⟩ := evRow_cells HPx.out.ml.ra i hlt
            rw [hg] at g0
            obtain ⟨E, HEe⟩ := hex G.all[i]
            rw [← HEe.out] at y0 y1 y2 y3 y4
            have HF : Hid ((G.all.take (i + 1)).filter (fun e => decide (e.ts < tt)) = W ++ if decide (E.ts < tt) then [E] else []) := by show _ = _; rw [filter_take_succ _ _ _ hlt, ← HW.out, ← HEe.out]
            clear hg hnc
            by_cases hts : E.ts < tt
            · have hbw := HBx.out.size
              go_wp2_with (at_builtin; refine wpList_append_lies _ rfl _ _ _ rfl wB.heap.size 37 j0 _ 5 40 Tryd.underlying32 hj0 hy0 hy1 hy2 rfl (by omega) (.slice wa W.length wc) W.length (evs W) rfl (HO.out.alloc _) ⟨wr.heap.size, 0, none⟩ 1 1 E.vals rfl rfl (news_new _ _ rfl E.vals 37) (Ev.one E) (by omega) (by unfold maxLen; omega) (by omega) (by simp; omega) _ rfl ?_; intro g2 cap w3 hown3 hgrow hat hlt3)
              have hgr : ∀ k, (Value.slice wa W.length wc).ownBlock = some k → wB.heap.size ≤ k := fun k e => (HO.out.lt k e).1
              have HB3 : Hid (Below wB.heap.size wB w3) := (HBx.out.alloc (by omega) _).grown hgrow (by simp; omega) (fun k e => by have := hgr k e; omega)
              go_roundw
              case rel =>
                refine ⟨i + 1, W ++ [E], some ⟨g2, 0, none⟩, cap, by omega, by simp, by go_num, by rw [HF.out]; simp [hts], ?_, HB3.out⟩
                rw [evs_snoc, List.length_append]
                exact hown3
              case measure => simp [intOf]; omega
            · go_wp2
              go_roundw
              case rel => exact ⟨i + 1, W, wa, wc, by omega, rfl, by go_num, by rw [HF.out]; simp [hts], HO.out, HBx.out⟩
              case measure => simp [intOf]; omega
          · have hnl2 : ¬ (i : Int) < (G.all.length : Int) := by omega
            have hie : i = G.all.length := by omega
            have HWe : Hid (W = G.all.filter (fun e => decide (e.ts < tt))) := by show _ = _; rw [HW.out, hie, List.take_length]
            clear hie
            have hsr : ∀ u, OneL w u b gb [(cb, 26, c.vals)] X G → Row u 37 5 wa W.length wc (evs W) → Calls Tryd.prog 21 #[.slice wa W.length wc] u fun e w' => ∃ (g : Nat), e = .returned (.slice (some ⟨g, 0, none⟩) P.length P.length) ∧ EvAt w' (some ⟨g, 0, none⟩) P ∧ Below u.heap.size u w' := fun u hu hrow => by
              refine (sorted_any W wa wc u hrow (by omega) (by rw [HWe.out]; exact HEnd.out.2.2.2.1)).mono ?_
              rintro e w' ⟨S, g, he, hs, hg⟩
              have hS : S = P := srt_unique (hg.perm.trans (by rw [HWe.out]; exact HEnd.out.2.2.1.symm)) hs HEnd.out.2.1
              have hll : W.length = P.length := by rw [HWe.out]; exact HEnd.out.2.2.1.length_eq.symm
              subst hS
              rw [hll] at he
              have hrow := hg.row
              rw [hll] at hrow
              exact ⟨g, he, EvAt.of_row (n := 0) hrow, hg.bel⟩
            have HRw : Hid (Row wr 37 5 wa W.length wc (evs W)) := ⟨HO.out.1, HO.out.2.imp id (fun ⟨g, cap, cur, h1, h2, h3⟩ => ⟨g, cap, cur, h1, Nat.zero_le _, h3⟩)⟩
            go_upto_region 35 with (go_at_call 21; refine (hsr _ HPx.out HRw.out).mono ?_; rintro e w5 ⟨g5, rfl, hev5, hb5⟩)
            have HP5 : Hid (OneL w w5 b gb [(cb, 26, c.vals)] X G) := HPx.out.below hb5
            have HV5 : Hid (EvAt w5 (some ⟨g5, 0, none⟩) P) := hev5
            clear hsr hev5 hb5 HRw HO HBx g0
            have hlg : ∀ u, OneL w u b gb [(cb, 26, c.vals)] X G → Calls Tryd.prog 15 #[.pointer (some ⟨b, 0, none⟩)] u fun e w' => ∃ (la : Option Addr) (lc : Nat), e = .returned (.slice la X.log.length lc) ∧ EvAt w' la X.log ∧ ((la = none ∧ X.log.length = 0 ∧ lc = 0) ∨ ∃ g, la = some ⟨g, 0, none⟩ ∧ X.log.length ≤ lc) ∧ Below u.heap.size u w' := fun u hu => by
              refine (xlog_any b X u hu.mx HEnd.out.2.2.2.2.log).mono ?_
              rintro e w' ⟨la, lc, he, hro, hbe⟩
              refine ⟨la, lc, he, EvAt.of_owns hro, ?_, hbe⟩
              rcases hro.2 with ⟨e, h0⟩ | ⟨g, cap, cur, hv, _, _, hnc, _⟩
              · left
                simp only [Value.slice.injEq] at e
                exact ⟨e.1, h0, e.2.2⟩
              · right
                simp only [Value.slice.injEq] at hv
                exact ⟨g, hv.1, by rw [hv.2.2]; exact hnc⟩
            go_upto_region 36 with (go_at_call 15; refine (hlg _ HP5.out).mono ?_; rintro e w6 ⟨la, lc, rfl, hev6, hlc6, hb6⟩)
            have HP6 : Hid (OneL w w6 b gb [(cb, 26, c.vals)] X G) := HP5.out.below hb6
            have HV6 : Hid (EvAt w6 la P) := hev6.take HEnd.out.1
            have HV6' : Hid (EvAt w6 (some ⟨g5, 0, none⟩) P) := HV5.out.below' hb6
            have hPl : P.length ≤ X.log.length := HEnd.out.1.length_le
            have hX1 : X.log.length ≤ 1000 := HEnd.out.2.2.2.2.log
            clear hlg hev6 hb6 HP5 HV5
            have k0 := (HP6.out.bx (cb, 26, c.vals) (by simp)).cell 0
            have k1 := (HP6.out.bx (cb, 26, c.vals) (by simp)).cell 1
            have k2 := (HP6.out.bx (cb, 26, c.vals) (by simp)).cell 2
            have k3 := (HP6.out.bx (cb, 26, c.vals) (by simp)).cell 3
            have k4 := (HP6.out.bx (cb, 26, c.vals) (by simp)).cell 4
            have k5 := (HP6.out.bx (cb, 26, c.vals) (by simp)).cell 5
            simp only [Cfg.vals, List.getElem?_cons_zero, List.getElem?_cons_succ] at k0 k1 k2 k3 k4 k5
            have hge : (P.length : Int) ≤ (X.log.length : Int) := by omega
            have hP00 : (0 : Int) ≤ (P.length : Int) := by omega
            have hsm : Calls Tryd.prog 16 #[.slice la P.length lc, .slice (some ⟨g5, 0, none⟩) P.length P.length] w6 fun e w' => e = .returned (.bool true) ∧ ∃ m, w' = w6.drewN m := same_eq P la (some ⟨g5, 0, none⟩) lc P.length w6 HV6.out HV6'.out (by omega)
            have HKc : Hid (∀ m (o : Nat), (w6.drewN m).cell? ⟨cb, o, none⟩ = w6.cell? ⟨cb, o, none⟩) := fun m o => rfl
            rcases hlc6 with ⟨rfl, hl0, rfl⟩ | ⟨lg, rfl, hlc⟩
            · have hp0 : P.length = 0 := by omega
              have hp0' : (P.length : Int) = 0 := by omega
              have hl0' : (X.log.length : Int) = 0 := by omega
              rw [hp0] at hsm
              rw [hp0, hl0]
              clear hge hP00 hp0' hl0'
              go_wp2_with (first
                | (go_at_call 16; refine (hsm).mono ?_; rintro e w7 ⟨rfl, m7, rfl⟩)
                | (go_at_call 18; refine (HFl.out _).mono ?_; rintro e w8 ⟨rfl, hb8⟩))
              go_ret
              exact ⟨rfl, (bdrewN HP6.out.bel m7).trans (hb8.mono HP6.out.bel.size)⟩
            · have hlc' : (P.length : Int) ≤ (lc : Int) := by omega
              go_wp2_with (first
                | (go_at_call 16; refine (hsm).mono ?_; rintro e w7 ⟨rfl, m7, rfl⟩)
                | (go_at_call 18; refine (HFl.out _).mono ?_; rintro e w8 ⟨rfl, hb8⟩))
              go_ret
              exact ⟨rfl, (bdrewN HP6.out.bel m7).trans (hb8.mono HP6.out.bel.size)⟩
  · have hcz : c.idle = 0 := by omega
    rw [hcz] at k4
    go_upto_region 13 with fail
    obtain ⟨X5, HX5⟩ := hex X4
    have HP5 : Hid (OneL w w4 b gb [(cb, 26, c.vals)] X5 G) := by show OneL _ _ _ _ _ _ _; rw [HX5.out]; exact HP4.out
    have HL5 : Hid (Lv n c G tt 0 X5) := ⟨fun j p hj => absurd hj (by omega), fun h => absurd h (by omega), Or.inr (fun j p hj => absurd hj (by omega)), by rw [HX5.out]; exact HK4.out⟩
    clear k0 k1 k2 k3 k4 k5 HP4 HK4 hc0 HX5 hcz
    go_wp2
    go_loopw [14] (fun sv wr => ∃ (s : Nat) (X : Eng), s ≤ n ∧ sv = .int .i64 s ∧ OneL w wr b gb [(cb, 26, c.vals)] X G ∧ Lv n c G tt s X) (fun sv _ => n - (intOf sv).toNat)
    case atStart => exact ⟨0, X5, Nat.zero_le _, rfl, HP5.out, HL5.out⟩
    case round =>
      obtain ⟨s, X, hsn, rfl, hp, hlv⟩ := hrel
      have HP : Hid (OneL w wr b gb [(cb, 26, c.vals)] X G) := hp
      have HLv : Hid (Lv n c G tt s X) := hlv
      clear hp hlv HP5 HL5
      have k0 := (HP.out.bx (cb, 26, c.vals) (by simp)).cell 0
      have k1 := (HP.out.bx (cb, 26, c.vals) (by simp)).cell 1
      have k2 := (HP.out.bx (cb, 26, c.vals) (by simp)).cell 2
      have k3 := (HP.out.bx (cb, 26, c.vals) (by simp)).cell 3
      have k4 := (HP.out.bx (cb, 26, c.vals) (by simp)).cell 4
      have k5 := (HP.out.bx (cb, 26, c.vals) (by simp)).cell 5
      simp only [Cfg.vals, List.getElem?_cons_zero, List.getElem?_cons_succ] at k0 k1 k2 k3 k4 k5
      rw [HNn.out] at k0
      by_cases hlt : s < n
      · have hlt' : (s : Int) < (n : Int) := by omega
        obtain ⟨R, hk⟩ := HLv.out.kp
        obtain ⟨N, hl⟩ := hk.lk
        have hsl : s < X.srcs.length := by rw [hk.n]; exact hlt
        obtain ⟨p, HPe⟩ := hex X.srcs[s]
        have HPs : Hid (X.srcs[s]? = some p) := by show _ = _; rw [HPe.out]; exact List.getElem?_eq_getElem hsl
        have hso : ∀ u, MemX u b X → Calls Tryd.prog 28 #[.pointer (some ⟨b, 0, none⟩), .int .i64 s] u fun e w' => e = .returned (.tuple #[.agg #[.bool p.inn, .bool p.idle, .int .i64 p.mark, .int .i64 (X.waitOf s), .int .i64 p.last], .int .i64 0]) ∧ Below u.heap.size u w' := fun u hu => by
          have ht : X.tell s = ⟨p.inn, p.idle, p.mark, X.waitOf s, p.last, 0⟩ := by
            unfold Eng.tell
            rw [if_neg (by omega), show (s : Int).toNat = s by omega, HPs.out]
          have := xsource_any b X s hl.sane u hu
          rw [ht] at this
          exact this
        have hlv : ∀ u bs, OneL w u b gb bs X G → p.inn = true → Calls Tryd.prog 29 #[.pointer (some ⟨b, 0, none⟩), .int .i64 s] u fun e w' => e = .returned (.int .i64 0) ∧ ∃ X', OneL w w' b gb bs X' G ∧ Lv n c G tt (s + 1) X' := fun u bs hu hin => by
          refine (xleave_rel s hl u hu.mx).mono ?_
          rintro e w' ⟨z, X', he, hP, hev⟩
          obtain ⟨rfl, h2⟩ := HLv.out.leave HPs.out hin hP
          exact ⟨he, X', hu.evoX hev, h2⟩
        have hpt : ∀ u bs, OneL w u b gb bs X G → p.inn = true → Calls Tryd.prog 30 #[.pointer (some ⟨b, 0, none⟩), .int .i64 s, .int .i64 tt] u fun e w' => e = .returned (.int .i64 0) ∧ ∃ X', OneL w w' b gb bs X' G ∧ Lv n c G tt (s + 1) X' := fun u bs hu hin => by
          refine (xpuncts_rel s tt hl u hu.mx).mono ?_
          rintro e w' ⟨z, X', he, hP, hev⟩
          obtain ⟨rfl, h2⟩ := HLv.out.punct HPs.out hin HTb.out hP
          exact ⟨he, X', hu.evoX hev, h2⟩
        have HHi : Hid (0 < c.idle → p.inn = true → p.idle = true) := fun h0 hin => HLv.out.hi h0 s p (Nat.le_refl _) HPs.out hin
        have HZi : Hid (¬ 0 < c.idle → p.idle = false) := fun h0 => zero_idle hl hk.c h0 s p HPs.out
        clear hl hk hsl HPe
        go_upto_region 17 with (go_at_call 28; refine (hso _ HP.out.mx).mono ?_; rintro e w4 ⟨rfl, hb4⟩)
        obtain ⟨wk, HWk⟩ := hex (w4.alloc (.cells [.bool p.inn, .bool p.idle, .int .i64 p.mark, .int .i64 (X.waitOf s), .int .i64 p.last].toArray 60))
        obtain ⟨kb, HKb⟩ := hex w4.heap.size
        have hwk : w4.alloc (.cells #[.bool p.inn, .bool p.idle, .int .i64 p.mark, .int .i64 (X.waitOf s), .int .i64 p.last] 60) = wk := HWk.out.symm
        have HPk : Hid (OneL w wk b gb ((kb, 60, [.bool p.inn, .bool p.idle, .int .i64 p.mark, .int .i64 (X.waitOf s), .int .i64 p.last]) :: [(cb, 26, c.vals)]) X G) := by
          show OneL _ _ _ _ _ _ _
          rw [HWk.out, HKb.out]
          exact (HP.out.below hb4).more 60 [.bool p.inn, .bool p.idle, .int .i64 p.mark, .int .i64 (X.waitOf s), .int .i64 p.last]
        rw [hwk, ← HKb.out]
        clear hwk HWk HKb hb4 hso HP k0 k1 k2 k3 k4 k5
        have k4 := (HPk.out.bx (cb, 26, c.vals) (by simp)).cell 4
        simp only [Cfg.vals, List.getElem?_cons_zero, List.getElem?_cons_succ] at k4
        have s0 := (HPk.out.bx (kb, 60, [.bool p.inn, .bool p.idle, .int .i64 p.mark, .int .i64 (X.waitOf s), .int .i64 p.last]) (by simp)).cell 0
        have s1 := (HPk.out.bx (kb, 60, [.bool p.inn, .bool p.idle, .int .i64 p.mark, .int .i64 (X.waitOf s), .int .i64 p.last]) (by simp)).cell 1
        simp only [List.getElem?_cons_zero, List.getElem?_cons_succ] at s0 s1
        cases hin : p.inn with
        | false =>
          have HIn : Hid (p.inn = false) := hin
          rw [hin] at s0
          clear hin hlv hpt
          by_cases hc0 : 0 < c.idle
          · have HSk : Hid (Lv n c G tt (s + 1) X) := HLv.out.skip HPs.out (Or.inl HIn.out)
            by_cases hwl : s < ways.length
            · have hwl' : (s : Int) < (ways.length : Int) := by omega
              have hs00 : (0 : Int) ≤ (s : Int) := by omega
              obtain ⟨hio, ib, io, hsab, hal, hac⟩ := HWA.out s hwl
              obtain ⟨q, HQq⟩ := hex ways[s]
              rw [← HQq.out] at hio hac
              have hpk3 : ∀ u, Calls Tryd.prog 23 #[.int .i64 q, .int .i64 3] u fun e w' => e = .returned (.int .i64 (pk q 3)) ∧ u = w' := fun u => pick_any _ _ u hio (by omega) (by omega)
              have hqr := pk_range (c := q) (n := 3) (by omega)
              generalize pk q 3 = d at *
              have hcl := (HPk.out.bel.cell (p := ⟨ib, io + s, none⟩) hal).trans hac
              subst hsab
              clear hal hac hio
              go_upto_region 22 with (go_at_call 23; refine (hpk3 _).mono ?_; rintro e w' ⟨rfl, rfl⟩)
              clear hpk3 hqr hcl
              go_wp2
              go_roundw
              case rel => exact ⟨s + 1, X, by omega, by go_num, HPk.out.less (fun x hx => by simp [hx]), HSk.out⟩
              case measure => simp [intOf]; omega
            · have hwn : ¬ (s : Int) < (ways.length : Int) := by omega
              go_wp2
              go_roundw
              case rel => exact ⟨s + 1, X, by omega, by go_num, HPk.out.less (fun x hx => by simp [hx]), HSk.out⟩
              case measure => simp [intOf]; omega
          · have HSk : Hid (Lv n c G tt (s + 1) X) := HLv.out.skip HPs.out (Or.inl HIn.out)
            by_cases hwl : s < ways.length
            · have hwl' : (s : Int) < (ways.length : Int) := by omega
              have hs00 : (0 : Int) ≤ (s : Int) := by omega
              obtain ⟨hio, ib, io, hsab, hal, hac⟩ := HWA.out s hwl
              obtain ⟨q, HQq⟩ := hex ways[s]
              rw [← HQq.out] at hio hac
              have hpk3 : ∀ u, Calls Tryd.prog 23 #[.int .i64 q, .int .i64 3] u fun e w' => e = .returned (.int .i64 (pk q 3)) ∧ u = w' := fun u => pick_any _ _ u hio (by omega) (by omega)
              have hqr := pk_range (c := q) (n := 3) (by omega)
              generalize pk q 3 = d at *
              have hcl := (HPk.out.bel.cell (p := ⟨ib, io + s, none⟩) hal).trans hac
              subst hsab
              clear hal hac hio
              go_upto_region 22 with (go_at_call 23; refine (hpk3 _).mono ?_; rintro e w' ⟨rfl, rfl⟩)
              clear hpk3 hqr hcl
              go_wp2
              go_roundw
              case rel => exact ⟨s + 1, X, by omega, by go_num, HPk.out.less (fun x hx => by simp [hx]), HSk.out⟩
              case measure => simp [intOf]; omega
            · have hwn : ¬ (s : Int) < (ways.length : Int) := by omega
              go_wp2
              go_roundw
              case rel => exact ⟨s + 1, X, by omega, by go_num, HPk.out.less (fun x hx => by simp [hx]), HSk.out⟩
              case measure => simp [intOf]; omega
        | true =>
          rw [hin] at s0
          by_cases hc0 : 0 < c.idle
          · have hid := HHi.out hc0 hin
            have HId : Hid (p.idle = true) := hid
            rw [hid] at s1
            replace hlv := fun u hu => hlv u ((kb, 60, [.bool p.inn, .bool p.idle, .int .i64 p.mark, .int .i64 (X.waitOf s), .int .i64 p.last]) :: [(cb, 26, c.vals)]) hu hin
            replace hpt := fun u hu => hpt u ((kb, 60, [.bool p.inn, .bool p.idle, .int .i64 p.mark, .int .i64 (X.waitOf s), .int .i64 p.last]) :: [(cb, 26, c.vals)]) hu hin
            clear hin hid
            by_cases hwl : s < ways.length
            · have hwl' : (s : Int) < (ways.length : Int) := by omega
              have hs00 : (0 : Int) ≤ (s : Int) := by omega
              obtain ⟨hio, ib, io, hsab, hal, hac⟩ := HWA.out s hwl
              obtain ⟨q, HQq⟩ := hex ways[s]
              rw [← HQq.out] at hio hac
              have hpk3 : ∀ u, Calls Tryd.prog 23 #[.int .i64 q, .int .i64 3] u fun e w' => e = .returned (.int .i64 (pk q 3)) ∧ u = w' := fun u => pick_any _ _ u hio (by omega) (by omega)
              have hqr := pk_range (c := q) (n := 3) (by omega)
              generalize pk q 3 = d at *
              have hcl := (HPk.out.bel.cell (p := ⟨ib, io + s, none⟩) hal).trans hac
              subst hsab
              clear hal hac hio
              go_upto_region 22 with (go_at_call 23; refine (hpk3 _).mono ?_; rintro e w' ⟨rfl, rfl⟩)
              clear hpk3 hcl
              have hd : d = 0 ∨ d = 1 ∨ d = 2 := by omega
              clear hqr
              rcases hd with rfl | rfl | rfl
              · go_upto_region 26 with (go_at_call 29; refine (hlv _ HPk.out).mono ?_; rintro e w6 ⟨rfl, X6, hp6, hl6⟩)
                have HP6 : Hid (OneL w w6 b gb [(cb, 26, c.vals)] X6 G) := hp6.less (fun x hx => by simp only [List.mem_cons, List.not_mem_nil, or_false] at hx ⊢; exact Or.inr hx)
                have HL6 : Hid (Lv n c G tt (s + 1) X6) := hl6
                clear hp6 hl6 hlv hpt
                go_wp2
                go_roundw
                case rel => exact ⟨s + 1, X6, by omega, by go_num, HP6.out, HL6.out⟩
                case measure => simp [intOf]; omega
              · go_upto_region 26 with (go_at_call 30; refine (hpt _ HPk.out).mono ?_; rintro e w6 ⟨rfl, X6, hp6, hl6⟩)
                have HP6 : Hid (OneL w w6 b gb [(cb, 26, c.vals)] X6 G) := hp6.less (fun x hx => by simp only [List.mem_cons, List.not_mem_nil, or_false] at hx ⊢; exact Or.inr hx)
                have HL6 : Hid (Lv n c G tt (s + 1) X6) := hl6
                clear hp6 hl6 hlv hpt
                go_wp2
                go_roundw
                case rel => exact ⟨s + 1, X6, by omega, by go_num, HP6.out, HL6.out⟩
                case measure => simp [intOf]; omega
              · have HSk : Hid (Lv n c G tt (s + 1) X) := HLv.out.skip HPs.out (Or.inr HId.out)
                go_wp2
                go_roundw
                case rel => exact ⟨s + 1, X, by omega, by go_num, HPk.out.less (fun x hx => by simp [hx]), HSk.out⟩
                case measure => simp [intOf]; omega
            · have hwn : ¬ (s : Int) < (ways.length : Int) := by omega
              go_upto_region 26 with (go_at_call 29; refine (hlv _ HPk.out).mono ?_; rintro e w6 ⟨rfl, X6, hp6, hl6⟩)
              have HP6 : Hid (OneL w w6 b gb [(cb, 26, c.vals)] X6 G) := hp6.less (fun x hx => by simp only [List.mem_cons, List.not_mem_nil, or_false] at hx ⊢; exact Or.inr hx)
              have HL6 : Hid (Lv n c G tt (s + 1) X6) := hl6
              clear hp6 hl6 hlv hpt
              go_wp2
              go_roundw
              case rel => exact ⟨s + 1, X6, by omega, by go_num, HP6.out, HL6.out⟩
              case measure => simp [intOf]; omega
          · have hid := HZi.out (by omega)
            rw [hid] at s1
            replace hlv := fun u hu => hlv u ((kb, 60, [.bool p.inn, .bool p.idle, .int .i64 p.mark, .int .i64 (X.waitOf s), .int .i64 p.last]) :: [(cb, 26, c.vals)]) hu hin
            replace hpt := fun u hu => hpt u ((kb, 60, [.bool p.inn, .bool p.idle, .int .i64 p.mark, .int .i64 (X.waitOf s), .int .i64 p.last]) :: [(cb, 26, c.vals)]) hu hin
            clear hin hid
            by_cases hwl : s < ways.length
            · have hwl' : (s : Int) < (ways.length : Int) := by omega
              have hs00 : (0 : Int) ≤ (s : Int) := by omega
              obtain ⟨hio, ib, io, hsab, hal, hac⟩ := HWA.out s hwl
              obtain ⟨q, HQq⟩ := hex ways[s]
              rw [← HQq.out] at hio hac
              have hpk3 : ∀ u, Calls Tryd.prog 23 #[.int .i64 q, .int .i64 3] u fun e w' => e = .returned (.int .i64 (pk q 3)) ∧ u = w' := fun u => pick_any _ _ u hio (by omega) (by omega)
              have hqr := pk_range (c := q) (n := 3) (by omega)
              generalize pk q 3 = d at *
              have hcl := (HPk.out.bel.cell (p := ⟨ib, io + s, none⟩) hal).trans hac
              subst hsab
              clear hal hac hio
              go_upto_region 22 with (go_at_call 23; refine (hpk3 _).mono ?_; rintro e w' ⟨rfl, rfl⟩)
              clear hpk3 hcl
              have hd : d = 0 ∨ d = 1 ∨ d = 2 := by omega
              clear hqr
              rcases hd with rfl | rfl | rfl
              · go_upto_region 26 with (go_at_call 29; refine (hlv _ HPk.out).mono ?_; rintro e w6 ⟨rfl, X6, hp6, hl6⟩)
                have HP6 : Hid (OneL w w6 b gb [(cb, 26, c.vals)] X6 G) := hp6.less (fun x hx => by simp only [List.mem_cons, List.not_mem_nil, or_false] at hx ⊢; exact Or.inr hx)
                have HL6 : Hid (Lv n c G tt (s + 1) X6) := hl6
                clear hp6 hl6 hlv hpt
                go_wp2
                go_roundw
                case rel => exact ⟨s + 1, X6, by omega, by go_num, HP6.out, HL6.out⟩
                case measure => simp [intOf]; omega
              · go_upto_region 26 with (go_at_call 30; refine (hpt _ HPk.out).mono ?_; rintro e w6 ⟨rfl, X6, hp6, hl6⟩)
                have HP6 : Hid (OneL w w6 b gb [(cb, 26, c.vals)] X6 G) := hp6.less (fun x hx => by simp only [List.mem_cons, List.not_mem_nil, or_false] at hx ⊢; exact Or.inr hx)
                have HL6 : Hid (Lv n c G tt (s + 1) X6) := hl6
                clear hp6 hl6 hlv hpt
                go_wp2
                go_roundw
                case rel => exact ⟨s + 1, X6, by omega, by go_num, HP6.out, HL6.out⟩
                case measure => simp [intOf]; omega
              · go_upto_region 26 with (go_at_call 30; refine (hpt _ HPk.out).mono ?_; rintro e w6 ⟨rfl, X6, hp6, hl6⟩)
                have HP6 : Hid (OneL w w6 b gb [(cb, 26, c.vals)] X6 G) := hp6.less (fun x hx => by simp only [List.mem_cons, List.not_mem_nil, or_false] at hx ⊢; exact Or.inr hx)
                have HL6 : Hid (Lv n c G tt (s + 1) X6) := hl6
                clear hp6 hl6 hlv hpt
                go_wp2
                go_roundw
                case rel => exact ⟨s + 1, X6, by omega, by go_num, HP6.out, HL6.out⟩
                case measure => simp [intOf]; omega
            · have hwn : ¬ (s : Int) < (ways.length : Int) := by omega
              go_upto_region 26 with (go_at_call 29; refine (hlv _ HPk.out).mono ?_; rintro e w6 ⟨rfl, X6, hp6, hl6⟩)
              have HP6 : Hid (OneL w w6 b gb [(cb, 26, c.vals)] X6 G) := hp6.less (fun x hx => by simp only [List.mem_cons, List.not_mem_nil, or_false] at hx ⊢; exact Or.inr hx)
              have HL6 : Hid (Lv n c G tt (s + 1) X6) := hl6
              clear hp6 hl6 hlv hpt
              go_wp2
              go_roundw
              case rel => exact ⟨s + 1, X6, by omega, by go_num, HP6.out, HL6.out⟩
              case measure => simp [intOf]; omega
      · obtain rfl : s = n := by omega
        have hnl : ¬ (s : Int) < (s : Int) := by omega
        obtain ⟨P, hpre, hsrt, hprm, hap, hsane, hgl⟩ := lively_end HLv.out
        have HEnd : Hid (P <+: X.log ∧ Srt P ∧ P.Perm (G.all.filter (fun e => decide (e.ts < tt))) ∧ (G.all.filter (fun e => decide (e.ts < tt))).Pairwise Apart2 ∧ SaneX X) := ⟨hpre, hsrt, hprm, hap, hsane⟩
        clear hpre hsrt hprm hap hsane HLv k1 k2 k3 k4 k5
        obtain ⟨wB, HWB⟩ := hex wr
        rw [← HWB.out]
        rw [← HWB.out] at HP k0
        clear HWB
        go_wp2
        clear k0
        go_loopw [18, 19] (fun wv iv wx => ∃ (i : Nat) (W : List Ev) (wa : Option Addr) (wc : Nat), i ≤ G.all.length ∧ wv = .slice wa W.length wc ∧ iv = .int .i64 i ∧ W = (G.all.take i).filter (fun e => decide (e.ts < tt)) ∧ wx.ownsRow wB.heap.size 37 5 (.slice wa W.length wc) W.length (evs W) ∧ Below wB.heap.size wB wx) (fun _ iv _ => G.all.length - (intOf iv).toNat)
        case atStart => exact ⟨0, [], none, 0, Nat.zero_le _, rfl, rfl, by simp, World.ownsRow_nil _ _ _ _, Below.refl _ _⟩
        case round =>
          obtain ⟨i, W, wa, wc, hi, rfl, rfl, hW, hown, hB⟩ := hrel
          have HW : Hid (W = (G.all.take i).filter (fun e => decide (e.ts < tt))) := hW
          have HO : Hid (wr.ownsRow wB.heap.size 37 5 (.slice wa W.length wc) W.length (evs W)) := hown
          have HBx : Hid (Below wB.heap.size wB wr) := hB
          have hWl : W.length ≤ 200 := by rw [HW.out]; have := List.length_filter_le (fun e : Ev => decide (e.ts < tt)) (G.all.take i); have := List.length_take_le i G.all; omega
          clear hW hown hB
          have HPx : Hid (OneL w wr b gb [(cb, 26, c.vals)] X G) := HP.out.below HBx.out
          have g0 : wr.cell? ⟨gb, 0, none⟩ = some (.slice G.aa G.all.length G.ac) := HPx.out.ml.blk.cell 0
          by_cases hlt : i < G.all.length
          · have hlt' : (i : Int) < (G.all.length : Int) := by omega
            have hi00 : (0 : Int) ≤ (i : Int) := by omega
            obtain ⟨g, hg, hnc, y0, y1, y2, y3, y4⟩ := evRow_cells HPx.out.ml.ra i hlt
            rw [hg] at g0
            obtain ⟨E, HEe⟩ := hex G.all[i]
            rw [← HEe.out] at y0 y1 y2 y3 y4
            have HF : Hid ((G.all.take (i + 1)).filter (fun e => decide (e.ts < tt)) = W ++ if decide (E.ts < tt) then [E] else []) := by show _ = _; rw [filter_take_succ _ _ _ hlt, ← HW.out, ← HEe.out]
            clear hg hnc
            by_cases hts : E.ts < tt
            · have hbw := HBx.out.size
              go_wp2_with (at_builtin; refine wpList_append_lies _ rfl _ _ _ rfl wB.heap.size 37 j0 _ 5 40 Tryd.underlying32 hj0 hy0 hy1 hy2 rfl (by omega) (.slice wa W.length wc) W.length (evs W) rfl (HO.out.alloc _) ⟨wr.heap.size, 0, none⟩ 1 1 E.vals rfl rfl (news_new _ _ rfl E.vals 37) (Ev.one E) (by omega) (by unfold maxLen; omega) (by omega) (by simp; omega) _ rfl ?_; intro g2 cap w3 hown3 hgrow hat hlt3)
              have hgr : ∀ k, (Value.slice wa W.length wc).ownBlock = some k → wB.heap.size ≤ k := fun k e => (HO.out.lt k e).1
              have HB3 : Hid (Below wB.heap.size wB w3) := (HBx.out.alloc (by omega) _).grown hgrow (by simp; omega) (fun k e => by have := hgr k e; omega)
              go_roundw
              case rel =>
                refine ⟨i + 1, W ++ [E], some ⟨g2, 0, none⟩, cap, by omega, by simp, by go_num, by rw [HF.out]; simp [hts], ?_, HB3.out⟩
                rw [evs_snoc, List.length_append]
                exact hown3
              case measure => simp [intOf]; omega
            · go_wp2
              go_roundw
              case rel => exact ⟨i + 1, W, wa, wc, by omega, rfl, by go_num, by rw [HF.out]; simp [hts], HO.out, HBx.out⟩
              case measure => simp [intOf]; omega
          · have hnl2 : ¬ (i : Int) < (G.all.length : Int) := by omega
            have hie : i = G.all.length := by omega
            have HWe : Hid (W = G.all.filter (fun e => decide (e.ts < tt))) := by show _ = _; rw [HW.out, hie, List.take_length]
            clear hie
            have hsr : ∀ u, OneL w u b gb [(cb, 26, c.vals)] X G → Row u 37 5 wa W.length wc (evs W) → Calls Tryd.prog 21 #[.slice wa W.length wc] u fun e w' => ∃ (g : Nat), e = .returned (.slice (some ⟨g, 0, none⟩) P.length P.length) ∧ EvAt w' (some ⟨g, 0, none⟩) P ∧ Below u.heap.size u w' := fun u hu hrow => by
              refine (sorted_any W wa wc u hrow (by omega) (by rw [HWe.out]; exact HEnd.out.2.2.2.1)).mono ?_
              rintro e w' ⟨S, g, he, hs, hg⟩
              have hS : S = P := srt_unique (hg.perm.trans (by rw [HWe.out]; exact HEnd.out.2.2.1.symm)) hs HEnd.out.2.1
              have hll : W.length = P.length := by rw [HWe.out]; exact HEnd.out.2.2.1.length_eq.symm
              subst hS
              rw [hll] at he
              have hrow := hg.row
              rw [hll] at hrow
              exact ⟨g, he, EvAt.of_row (n := 0) hrow, hg.bel⟩
            have HRw : Hid (Row wr 37 5 wa W.length wc (evs W)) := ⟨HO.out.1, HO.out.2.imp id (fun ⟨g, cap, cur, h1, h2, h3⟩ => ⟨g, cap, cur, h1, Nat.zero_le _, h3⟩)⟩
            go_upto_region 35 with (go_at_call 21; refine (hsr _ HPx.out HRw.out).mono ?_; rintro e w5 ⟨g5, rfl, hev5, hb5⟩)
            have HP5 : Hid (OneL w w5 b gb [(cb, 26, c.vals)] X G) := HPx.out.below hb5
            have HV5 : Hid (EvAt w5 (some ⟨g5, 0, none⟩) P) := hev5
            clear hsr hev5 hb5 HRw HO HBx g0
            have hlg : ∀ u, OneL w u b gb [(cb, 26, c.vals)] X G → Calls Tryd.prog 15 #[.pointer (some ⟨b, 0, none⟩)] u fun e w' => ∃ (la : Option Addr) (lc : Nat), e = .returned (.slice la X.log.length lc) ∧ EvAt w' la X.log ∧ ((la = none ∧ X.log.length = 0 ∧ lc = 0) ∨ ∃ g, la = some ⟨g, 0, none⟩ ∧ X.log.length ≤ lc) ∧ Below u.heap.size u w' := fun u hu => by
              refine (xlog_any b X u hu.mx HEnd.out.2.2.2.2.log).mono ?_
              rintro e w' ⟨la, lc, he, hro, hbe⟩
              refine ⟨la, lc, he, EvAt.of_owns hro, ?_, hbe⟩
              rcases hro.2 with ⟨e, h0⟩ | ⟨g, cap, cur, hv, _, _, hnc, _⟩
              · left
                simp only [Value.slice.injEq] at e
                exact ⟨e.1, h0, e.2.2⟩
              · right
                simp only [Value.slice.injEq] at hv
                exact ⟨g, hv.1, by rw [hv.2.2]; exact hnc⟩
            go_upto_region 36 with (go_at_call 15; refine (hlg _ HP5.out).mono ?_; rintro e w6 ⟨la, lc, rfl, hev6, hlc6, hb6⟩)
            have HP6 : Hid (OneL w w6 b gb [(cb, 26, c.vals)] X G) := HP5.out.below hb6
            have HV6 : Hid (EvAt w6 la P) := hev6.take HEnd.out.1
            have HV6' : Hid (EvAt w6 (some ⟨g5, 0, none⟩) P) := HV5.out.below' hb6
            have hPl : P.length ≤ X.log.length := HEnd.out.1.length_le
            have hX1 : X.log.length ≤ 1000 := HEnd.out.2.2.2.2.log
            clear hlg hev6 hb6 HP5 HV5
            have k0 := (HP6.out.bx (cb, 26, c.vals) (by simp)).cell 0
            have k1 := (HP6.out.bx (cb, 26, c.vals) (by simp)).cell 1
            have k2 := (HP6.out.bx (cb, 26, c.vals) (by simp)).cell 2
            have k3 := (HP6.out.bx (cb, 26, c.vals) (by simp)).cell 3
            have k4 := (HP6.out.bx (cb, 26, c.vals) (by simp)).cell 4
            have k5 := (HP6.out.bx (cb, 26, c.vals) (by simp)).cell 5
            simp only [Cfg.vals, List.getElem?_cons_zero, List.getElem?_cons_succ] at k0 k1 k2 k3 k4 k5
            have hge : (P.length : Int) ≤ (X.log.length : Int) := by omega
            have hP00 : (0 : Int) ≤ (P.length : Int) := by omega
            have hsm : Calls Tryd.prog 16 #[.slice la P.length lc, .slice (some ⟨g5, 0, none⟩) P.length P.length] w6 fun e w' => e = .returned (.bool true) ∧ ∃ m, w' = w6.drewN m := same_eq P la (some ⟨g5, 0, none⟩) lc P.length w6 HV6.out HV6'.out (by omega)
            have HKc : Hid (∀ m (o : Nat), (w6.drewN m).cell? ⟨cb, o, none⟩ = w6.cell? ⟨cb, o, none⟩) := fun m o => rfl
            rcases hlc6 with ⟨rfl, hl0, rfl⟩ | ⟨lg, rfl, hlc⟩
            · have hp0 : P.length = 0 := by omega
              have hp0' : (P.length : Int) = 0 := by omega
              have hl0' : (X.log.length : Int) = 0 := by omega
              rw [hp0] at hsm
              rw [hp0, hl0]
              clear hge hP00 hp0' hl0'
              go_wp2_with (first
                | (go_at_call 16; refine (hsm).mono ?_; rintro e w7 ⟨rfl, m7, rfl⟩)
                | (go_at_call 18; refine (HFl.out _).mono ?_; rintro e w8 ⟨rfl, hb8⟩))
              go_ret
              exact ⟨rfl, (bdrewN HP6.out.bel m7).trans (hb8.mono HP6.out.bel.size)⟩
            · have hlc' : (P.length : Int) ≤ (lc : Int) := by omega
              go_wp2_with (first
                | (go_at_call 16; refine (hsm).mono ?_; rintro e w7 ⟨rfl, m7, rfl⟩)
                | (go_at_call 18; refine (HFl.out _).mono ?_; rintro e w8 ⟨rfl, hb8⟩))
              go_ret
              exact ⟨rfl, (bdrewN HP6.out.bel m7).trans (hb8.mono HP6.out.bel.size)⟩
end Go.Proofs.YtghcololkgeoeaaDoor
