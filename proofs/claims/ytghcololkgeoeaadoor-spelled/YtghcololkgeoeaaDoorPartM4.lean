import Derived.Test.YtghcololkgeoeaaDoorPartM3
namespace Go.Proofs.YtghcololkgeoeaaDoor
open Go.RowKit
set_option linter.unusedVariables false
set_option linter.unusedSimpArgs false
attribute [local go_sem ↓] Go.wp_at_zero Go.wp_at_succ

theorem join_new {c : Cfg} {n sg sc k : Nat} {pv : PatV} {z : Int} {X' : Eng} (hk : k < n) (h : JoinsX (newEng c n sg sc pv) k z X') : z = 0 := by
  rcases h with ⟨o, _, _⟩ | ⟨i, p, hi, hp, ⟨h, _, _⟩ | ⟨_, h, _⟩⟩
  · exact (off_not o rfl (by show k < (List.replicate n zP).length; simpa using hk)).elim
  · have hp : (List.replicate n zP)[i]? = some p := hp
    rw [List.getElem?_replicate] at hp
    split at hp
    · simp only [Option.some.injEq] at hp; rw [← hp] at h; cases h
    · cases hp
  · exact h
set_option maxRecDepth 100000 in
set_option maxHeartbeats 16000000 in
theorem spelled_walk (r : RawC) (s : Int) (sa : Option Addr) (sc : Nat) (acts : List ActR) (all : Bool) (w : World) (hr : r.ok) (hs : I64 s) (hsa : ActsAt w sa acts) (hei : ∀ a ∈ acts, EvI a.E) (hlen : acts.length ≤ 9000000000000000) (htab : ∀ u, Below w.heap.size w u → tab10 u) :
    Calls Tryd.prog 9 #[.agg #[.int .i64 r.sources, .int .i64 r.slack, .int .i64 r.policy, .int .i64 r.room, .int .i64 r.idle, .int .i64 r.pattern], .int .i64 s, .slice sa acts.length sc, .bool all] w fun e w' => e = .returned (.bool true) ∧ Below w.heap.size w w' := by
  have HSA : Hid (ActsAt w sa acts) := hsa
  have HEI : Hid (∀ a ∈ acts, EvI a.E) := hei
  have HTab : Hid (∀ u, Below w.heap.size w u → tab10 u) := htab
  clear hsa hei
  obtain ⟨c, HC⟩ := hex r.cfg
  have HOK : Hid c.ok := by show c.ok; rw [HC.out]; exact r.cfg_ok
  obtain ⟨n, hn⟩ : ∃ n : Nat, c.sources = n := ⟨c.sources.toNat, by have := HOK.out.1.1; omega⟩
  have HNn : Hid (c.sources = n) := hn
  have hn6 : 1 ≤ n ∧ n ≤ 6 := by have := HOK.out.1.1; have := HOK.out.1.2.1; omega
  have hcf : ∀ u, Below w.heap.size w u → Calls Tryd.prog 10 #[.agg #[.int .i64 r.sources, .int .i64 r.slack, .int .i64 r.policy, .int .i64 r.room, .int .i64 r.idle, .int .i64 r.pattern]] u fun e w' => e = .returned (.agg #[.int .i64 c.sources, .int .i64 c.slack, .int .i64 c.policy, .int .i64 c.room, .int .i64 c.idle, .string c.pat]) ∧ Below u.heap.size u w' := fun u hu => by rw [HC.out]; exact config_any r u hr (fun v hv => htab v (hu.trans (hv.mono hu.size)))
  have HMd : Hid (∀ u, Calls Tryd.prog 11 #[.agg #[.int .i64 c.sources, .int .i64 c.slack, .int .i64 c.policy, .int .i64 c.room, .int .i64 c.idle, .string c.pat]] u fun e w' => ∃ b sg sc p, e = .returned (.tuple #[.pointer (some ⟨b, 0, none⟩), .bool true]) ∧ MemX w' b (newEng c n sg sc p) ∧ (∀ k, some k ∈ (newEng c n sg sc p).fp b → u.heap.size ≤ k) ∧ Below u.heap.size u w') := fun u => made_any n c u hn HOK.out
  have HFl : Hid (∀ u, Calls Tryd.prog 18 #[.agg #[.int .i64 c.sources, .int .i64 c.slack, .int .i64 c.policy, .int .i64 c.room, .int .i64 c.idle, .string c.pat]] u fun e w' => e = .returned (.bool true) ∧ Below u.heap.size u w') := fun u => flows_true n c u hn HOK.out
  clear hn htab hr HC
  have H0 : Hid (Below w.heap.size w (w.alloc (.cells #[.int .i64 r.sources, .int .i64 r.slack, .int .i64 r.policy, .int .i64 r.room, .int .i64 r.idle, .int .i64 r.pattern] 23))) := (Below.refl _ _).alloc (Nat.le_refl _) _
  go_enter Tryd.func9, Tryd.ntmps9
  go_upto_region 2 with (go_at_call 10; refine (hcf _ H0.out).mono ?_; rintro e w1 ⟨rfl, hb1⟩)
  have HB1 : Hid (Below w.heap.size w w1) := H0.out.trans (hb1.mono (by simp))
  clear hcf hb1 H0
  obtain ⟨w2, HW2⟩ := hex (w1.alloc (.cells c.vals.toArray 26))
  have hw2 : w1.alloc (.cells #[.int .i64 c.sources, .int .i64 c.slack, .int .i64 c.policy, .int .i64 c.room, .int .i64 c.idle, .string c.pat] 26) = w2 := HW2.out.symm
  rw [hw2]
  obtain ⟨cb, HCb⟩ := hex w1.heap.size
  have HC2 : Hid (Blk w2 cb 26 c.vals) := by show Blk _ _ _ _; rw [HW2.out, HCb.out]; exact blk_alloc _ _ _
  have HB2 : Hid (Below w.heap.size w w2) := by show Below _ _ _; rw [HW2.out]; exact HB1.out.alloc HB1.out.size _
  rw [← HCb.out]
  clear hw2 HW2 HCb HB1
  have k0 := (HC2.out).cell 0
  have k1 := (HC2.out).cell 1
  have k2 := (HC2.out).cell 2
  have k3 := (HC2.out).cell 3
  have k4 := (HC2.out).cell 4
  have k5 := (HC2.out).cell 5
  simp only [Cfg.vals, List.getElem?_cons_zero, List.getElem?_cons_succ] at k0 k1 k2 k3 k4 k5
  go_upto_region 3 with (go_at_call 11; refine (HMd.out _).mono ?_; rintro e w3 ⟨b, sg, scc, pv, rfl, hM, hf, hb⟩)
  have HM3 : Hid (MemX w3 b (newEng c n sg scc pv) ∧ (∀ k, some k ∈ (newEng c n sg scc pv).fp b → w2.heap.size ≤ k) ∧ Below w2.heap.size w2 w3) := ⟨hM, hf, hb⟩
  have HC3 : Hid (Blk w3 cb 26 c.vals) := HC2.out.below hb HC2.out.lt
  clear hM hf hb k0 k1 k2 k3 k4 k5
  have k0 := (HC3.out).cell 0
  have k1 := (HC3.out).cell 1
  have k2 := (HC3.out).cell 2
  have k3 := (HC3.out).cell 3
  have k4 := (HC3.out).cell 4
  have k5 := (HC3.out).cell 5
  simp only [Cfg.vals, List.getElem?_cons_zero, List.getElem?_cons_succ] at k0 k1 k2 k3 k4 k5
  go_upto_region 4 with (go_at_call 11; refine (HMd.out _).mono ?_; rintro e w4 ⟨b', sg', scc', pv', rfl, hM, hf, hb⟩)
  obtain ⟨bs, HBs⟩ := hex [(cb, 26, c.vals)]
  have HK4 : Hid (Two w w4 b b' bs (newEng c n sg scc pv) (newEng c n sg' scc' pv')) := by
    refine Two.start HB2.out ?_ HM3.out.1 HM3.out.2.1 HM3.out.2.2 hM hf hb
    rw [HBs.out]
    intro x hx
    simp only [List.mem_cons, List.not_mem_nil, or_false] at hx
    subst hx
    exact HC2.out
  clear hM hf hb k0 k1 k2 k3 k4 k5 HC2 HC3 HB2 HMd HM3
  have k0 := (HK4.out.bx (cb, 26, c.vals) (HBs.out ▸ by simp)).cell 0
  have k1 := (HK4.out.bx (cb, 26, c.vals) (HBs.out ▸ by simp)).cell 1
  have k2 := (HK4.out.bx (cb, 26, c.vals) (HBs.out ▸ by simp)).cell 2
  have k3 := (HK4.out.bx (cb, 26, c.vals) (HBs.out ▸ by simp)).cell 3
  have k4 := (HK4.out.bx (cb, 26, c.vals) (HBs.out ▸ by simp)).cell 4
  have k5 := (HK4.out.bx (cb, 26, c.vals) (HBs.out ▸ by simp)).cell 5
  simp only [Cfg.vals, List.getElem?_cons_zero, List.getElem?_cons_succ] at k0 k1 k2 k3 k4 k5
  have hpk : ∀ u, Calls Tryd.prog 23 #[.int .i64 s, .int .i64 c.sources] u fun e w' => e = .returned (.int .i64 (pk s c.sources)) ∧ u = w' := fun u => pick_any _ _ u hs (by rw [HNn.out]; omega) (by rw [HNn.out]; omega)
  have hpr := pk_range (c := s) (n := c.sources) (by rw [HNn.out]; omega)
  obtain ⟨k, hk⟩ : ∃ k : Nat, pk s c.sources = k := ⟨(pk s c.sources).toNat, by omega⟩
  have hkn : k < n := by have := HNn.out; omega
  rw [hk] at hpk
  go_upto_region 7 with (go_at_call 23; refine (hpk _).mono ?_; rintro e w' ⟨rfl, rfl⟩)
  clear hpk hpr hk hs k0 k1 k2 k3 k4 k5
  have HN1 : Hid (Like 0 (newEng c n sg scc pv) (newRef c n none 0 0)) := new_like HNn.out HOK.out
  have HN2 : Hid (Like 0 (newEng c n sg' scc' pv') (newRef c n none 0 0)) := new_like HNn.out HOK.out
  have HNl : Hid (∀ (Y : Eng), lineOf Y = lineOf (newEng c n sg' scc' pv') → ∀ q, Y.srcs[k]? = some q → q.line = []) := fun Y hY q hq => by
    obtain ⟨q', hq', e⟩ := lineOf_get hY hq
    have hq' : (List.replicate n zP)[k]? = some q' := hq'
    have hm := List.mem_of_getElem? hq'
    rw [List.mem_replicate] at hm
    rw [← e, hm.2]; rfl
  have hno : (newEng c n sg scc pv).srcs.length = n := by show (List.replicate n zP).length = n; simp
  have hno' : (newEng c n sg' scc' pv').srcs.length = n := by show (List.replicate n zP).length = n; simp
  go_upto_if 45 with fail
  go_cut [11, 13] (fun s11 s13 wx => s11 = .bool true ∧ s13 = .bool true ∧ ∃ X5 Y6, Two w wx b b' bs X5 Y6 ∧ Twin (fun _ => True) X5 Y6 ∧ X5.srcs.length = n ∧ ∀ q, Y6.srcs[k]? = some q → q.line = [])
  case first =>
    cases all with
    | true =>
      have k0 := (HK4.out.bx (cb, 26, c.vals) (HBs.out ▸ by simp)).cell 0
      have k1 := (HK4.out.bx (cb, 26, c.vals) (HBs.out ▸ by simp)).cell 1
      have k2 := (HK4.out.bx (cb, 26, c.vals) (HBs.out ▸ by simp)).cell 2
      have k3 := (HK4.out.bx (cb, 26, c.vals) (HBs.out ▸ by simp)).cell 3
      have k4 := (HK4.out.bx (cb, 26, c.vals) (HBs.out ▸ by simp)).cell 4
      have k5 := (HK4.out.bx (cb, 26, c.vals) (HBs.out ▸ by simp)).cell 5
      simp only [Cfg.vals, List.getElem?_cons_zero, List.getElem?_cons_succ] at k0 k1 k2 k3 k4 k5
      have hjx : ∀ u, Two w u b b' bs (newEng c n sg scc pv) (newEng c n sg' scc' pv') → Calls Tryd.prog 12 #[.pointer (some ⟨b, 0, none⟩), .agg #[.int .i64 c.sources, .int .i64 c.slack, .int .i64 c.policy, .int .i64 c.room, .int .i64 c.idle, .string c.pat]] u fun e w' => e = .returned (.bool true) ∧ ∃ M X, Like M X (joinSeq (newRef c n none 0 0) n) ∧ lineOf X = lineOf (newEng c n sg scc pv) ∧ X.srcs.length = n ∧ Two w w' b b' bs X (newEng c n sg' scc' pv') := fun u hu => by
        refine (joined_seq b n c (newEng c n sg scc pv) (newRef c n none 0 0) u hu.mx (new_like HNn.out HOK.out) HNn.out hn6.2 (by show (List.replicate n zP).length = n; simp)).mono ?_
        rintro e w' ⟨he, M, Y, h1, h2, h3, hev⟩
        exact ⟨he, M, Y, h1, h2, h3, hu.evoX hev⟩
      go_upto_region 9 with (go_at_call 12; refine (hjx _ HK4.out).mono ?_; rintro e w5 ⟨rfl, M5, X5, hl5, hi5, hn5, hk5⟩)
      have HK5 : Hid (Two w w5 b b' bs X5 (newEng c n sg' scc' pv')) := hk5
      have HL5 : Hid (Like M5 X5 (joinSeq (newRef c n none 0 0) n) ∧ lineOf X5 = lineOf (newEng c n sg scc pv) ∧ X5.srcs.length = n) := ⟨hl5, hi5, hn5⟩
      clear hjx hk5 hl5 hi5 hn5 k0 k1 k2 k3 k4 k5 HK4
      have k0 := (HK5.out.bx (cb, 26, c.vals) (HBs.out ▸ by simp)).cell 0
      have k1 := (HK5.out.bx (cb, 26, c.vals) (HBs.out ▸ by simp)).cell 1
      have k2 := (HK5.out.bx (cb, 26, c.vals) (HBs.out ▸ by simp)).cell 2
      have k3 := (HK5.out.bx (cb, 26, c.vals) (HBs.out ▸ by simp)).cell 3
      have k4 := (HK5.out.bx (cb, 26, c.vals) (HBs.out ▸ by simp)).cell 4
      have k5 := (HK5.out.bx (cb, 26, c.vals) (HBs.out ▸ by simp)).cell 5
      simp only [Cfg.vals, List.getElem?_cons_zero, List.getElem?_cons_succ] at k0 k1 k2 k3 k4 k5
      have hjy : ∀ u, Two w u b b' bs X5 (newEng c n sg' scc' pv') → Calls Tryd.prog 12 #[.pointer (some ⟨b', 0, none⟩), .agg #[.int .i64 c.sources, .int .i64 c.slack, .int .i64 c.policy, .int .i64 c.room, .int .i64 c.idle, .string c.pat]] u fun e w' => e = .returned (.bool true) ∧ ∃ M Y, Like M Y (joinSeq (newRef c n none 0 0) n) ∧ lineOf Y = lineOf (newEng c n sg' scc' pv') ∧ Y.srcs.length = n ∧ Two w w' b b' bs X5 Y := fun u hu => by
        refine (joined_seq b' n c (newEng c n sg' scc' pv') (newRef c n none 0 0) u hu.my (new_like HNn.out HOK.out) HNn.out hn6.2 (by show (List.replicate n zP).length = n; simp)).mono ?_
        rintro e w' ⟨he, M, Y, h1, h2, h3, hev⟩
        exact ⟨he, M, Y, h1, h2, h3, hu.evoY hev⟩
      go_wp2_with (go_at_call 12; refine (hjy _ HK5.out).mono ?_; rintro e w6 ⟨rfl, M6, Y6, hl6, hi6, hn6', hk6⟩)
      have HK6 : Hid (Two w w6 b b' bs X5 Y6) := hk6
      have HT6 : Hid (Twin (fun _ => True) X5 Y6) := twin_of HL5.out.1 hl6 (HL5.out.2.1.trans ((new_lines _ _ _ _ _ _ _ _ _).trans hi6.symm))
      have HLX : Hid (X5.srcs.length = n) := HL5.out.2.2
      have HLI : Hid (lineOf Y6 = lineOf (newEng c n sg' scc' pv')) := hi6
      clear hjy hk6 hl6 hi6 hn6' k0 k1 k2 k3 k4 k5 HK5 HL5
      have HY0 : Hid (∀ q, Y6.srcs[k]? = some q → q.line = []) := HNl.out Y6 HLI.out
      clear HNl HN1 HN2 HLI
      (try go_wp2)
      go_meet
      case rel => exact ⟨rfl, rfl, X5, Y6, HK6.out, HT6.out, HLX.out, HY0.out⟩
    | false =>
      have hjx : ∀ u, Two w u b b' bs (newEng c n sg scc pv) (newEng c n sg' scc' pv') → Calls Tryd.prog 37 #[.pointer (some ⟨b, 0, none⟩), .int .i64 k] u fun e w' => e = .returned (.int .i64 0) ∧ ∃ X', JoinsX (newEng c n sg scc pv) k 0 X' ∧ Two w w' b b' bs X' (newEng c n sg' scc' pv') := fun u hu => by
        refine (xjoin_rel k HN1.out u hu.mx).mono ?_
        rintro e w' ⟨z, X', he, hP, hev⟩
        have hz := join_new hkn hP
        subst hz
        exact ⟨he, X', hP, hu.evoX hev⟩
      go_upto_region 11 with (go_at_call 37; refine (hjx _ HK4.out).mono ?_; rintro e w5 ⟨rfl, X5, hj5, hk5⟩)
      have HJ5 : Hid (JoinsX (newEng c n sg scc pv) k 0 X5) := hj5
      have HK5 : Hid (Two w w5 b b' bs X5 (newEng c n sg' scc' pv')) := hk5
      clear hjx hj5 hk5 HK4
      have hjy : ∀ u, Two w u b b' bs X5 (newEng c n sg' scc' pv') → Calls Tryd.prog 37 #[.pointer (some ⟨b', 0, none⟩), .int .i64 k] u fun e w' => e = .returned (.int .i64 0) ∧ ∃ Y', JoinsX (newEng c n sg' scc' pv') k 0 Y' ∧ Two w w' b b' bs X5 Y' := fun u hu => by
        refine (xjoin_rel k HN2.out u hu.my).mono ?_
        rintro e w' ⟨z, X', he, hP, hev⟩
        have hz := join_new hkn hP
        subst hz
        exact ⟨he, X', hP, hu.evoY hev⟩
      go_wp2_with (go_at_call 37; refine (hjy _ HK5.out).mono ?_; rintro e w6 ⟨rfl, Y6, hj6, hk6⟩)
      have HK6 : Hid (Two w w6 b b' bs X5 Y6) := hk6
      have HT6 : Hid (Twin (fun _ => True) X5 Y6) := (twin_join (twin_of HN1.out HN2.out (new_lines _ _ _ _ _ _ _ _ _)) HJ5.out hj6).2
      have HLX : Hid (X5.srcs.length = n) := (joinX_grow HJ5.out).n.trans hno
      have HY0 : Hid (∀ q, Y6.srcs[k]? = some q → q.line = []) := HNl.out Y6 (joinX_lines hj6)
      clear hjy hj6 hk6 HK5 HJ5 HNl HN1 HN2
      (try go_wp2)
      go_meet
      case rel => exact ⟨rfl, rfl, X5, Y6, HK6.out, HT6.out, HLX.out, HY0.out⟩
  case rest =>
    obtain ⟨rfl, rfl, X5, Y6, hk6, ht6, hlx6, hy0⟩ := hcut
    have HK6 : Hid (Two w wc b b' bs X5 Y6) := hk6
    have HT6 : Hid (Twin (fun _ => True) X5 Y6) := ht6
    have HLX : Hid (X5.srcs.length = n) := hlx6
    have HY0 : Hid (∀ q, Y6.srcs[k]? = some q → q.line = []) := hy0
    clear hk6 ht6 hlx6 hy0 HNl HN1 HN2 HK4
    obtain ⟨w6, HW6⟩ := hex wc
    rw [← HW6.out] at HK6
    rw [← HW6.out]
    clear HW6
    go_upto_region 14 with fail
    have HLx : Hid (∃ N R, Like N X5 R) := by obtain ⟨⟨N, R, h1, _⟩, _⟩ := HT6.out; exact ⟨N, R, h1⟩
    have HLy : Hid (∃ N R, Like N Y6 R) := by obtain ⟨⟨N, R, _, h2⟩, _⟩ := HT6.out; exact ⟨N, R, h2⟩
    go_upto_region 16 with fail
    obtain ⟨w7, HW7⟩ := hex (w6.alloc (.cells (FedN.vals ⟨0, 0, 0⟩).toArray 71))
    obtain ⟨wb, HWb⟩ := hex w6.heap.size
    have hw7 : w6.alloc (.cells #[.int .i64 0, .int .i64 0, .int .i64 0] 71) = w7 := HW7.out.symm
    have HK7 : Hid (Two w w7 b b' ((wb, 71, FedN.vals ⟨0, 0, 0⟩) :: bs) X5 Y6) := by show Two _ _ _ _ _ _ _; rw [HW7.out, HWb.out]; exact HK6.out.more 71 (FedN.vals ⟨0, 0, 0⟩)
    have HWw : Hid (w.heap.size ≤ wb) := by show _ ≤ _; rw [HWb.out]; exact HK6.out.bel.size
    have HWn : Hid (∀ x ∈ bs, x.1 ≠ wb) := fun x hx e => by have h1 := (HK6.out.bx x hx).lt; have h2 := HWb.out; omega
    rw [hw7, ← HWb.out]
    clear hw7 HW7 HWb
    have HS0 : Hid (Sp k X5 (spText (acts.take 0)) ⟨0, 0, 0⟩ Y6) := by
      refine ⟨?_, HY0.out, by rw [← HT6.out.len, HLX.out]; exact hkn, HLy.out⟩
      intro fx X' hr
      cases hr
      exact ⟨rfl, HT6.out⟩
    go_wp2
    go_loopw [15, 17] (fun tv iv wr => ∃ (i : Nat) (f : FedN) (Y : Eng), (i ≤ acts.length ∧ i ≤ 40) ∧ tv = .string (⟨(spText (acts.take i)).toArray⟩ : ByteArray) ∧ iv = .int .i64 i ∧ Two w wr b b' ((wb, 71, FedN.vals f) :: bs) X5 Y ∧ Sp k X5 (spText (acts.take i)) f Y ∧ Cnt i f ∧ f.bad = 0) (fun _ iv _ => 40 - (intOf iv).toNat)
    case atStart => exact ⟨0, ⟨0, 0, 0⟩, Y6, ⟨Nat.zero_le _, by omega⟩, rfl, rfl, HK7.out, HS0.out, by unfold Cnt; simp, rfl⟩
    case round =>
      clear HK7 HS0 HK6 HT6
      obtain ⟨i, f, Y, hi, rfl, rfl, hk, hsp, hcn⟩ := hrel
      have HK : Hid (Two w wr b b' ((wb, 71, FedN.vals f) :: bs) X5 Y) := hk
      have HSp : Hid (Sp k X5 (spText (acts.take i)) f Y) := hsp
      have HCn : Hid (Cnt i f ∧ f.bad = 0) := hcn
      clear hk hsp hcn
      have hsz : (spText (acts.take i)).length ≤ 41 * i := by have := spText_len (acts.take i); rw [List.length_take] at this; omega
      by_cases hle : i < acts.length ∧ i < 40
      · have hle1 := hle.1
        have hle' : (i : Int) < (acts.length : Int) := by omega
        have hle40 : (i : Int) < 40 := by omega
        have hi00 : (0 : Int) ≤ (i : Int) := by omega
        obtain ⟨hao, ab, ao, hsab, hal, hac⟩ := HSA.out i hle1
        have hei := HEI.out acts[i] (List.getElem_mem hle1)
        have HTk : Hid (acts.take (i + 1) = acts.take i ++ [acts[i]]) := List.take_succ_eq_append_getElem hle1
        obtain ⟨a, HAa⟩ := hex acts[i]
        rw [← HAa.out] at hao hac hei HTk
        have HAL : Hid (ab < w.heap.size ∧ ∀ o, o < 8 → w.cell? ⟨ab, ao + i * 8 + o, none⟩ = a.cells[o]?) := ⟨hal, hac⟩
        have hsp : ∀ u, Two w u b b' ((wb, 71, FedN.vals f) :: bs) X5 Y → Calls Tryd.prog 38 #[.agg #[.int .i64 a.d, .int .i64 a.s, .int .i64 a.n, .int .i64 a.E.src, .int .i64 a.E.seq, .int .i64 a.E.ts, .int .i64 a.E.kind, .int .i64 a.E.val]] u fun e w' => e = .returned (.tuple #[.string ⟨(spLine a ++ [10]).toArray⟩, .agg #[.int .i64 (spEv a).src, .int .i64 (spEv a).seq, .int .i64 (spEv a).ts, .int .i64 (spEv a).kind, .int .i64 (spEv a).val]]) ∧ Two w w' b b' ((wb, 71, FedN.vals f) :: bs) X5 Y := fun u hu => (spelt_any a u hao hei (fun v hv => HTab.out v (hu.bel.trans (hv.mono hu.bel.size)))).mono fun e w' ⟨he, hb⟩ => ⟨he, hu.below hb⟩
        clear hac hao hal hei HAa
        subst hsab
        have HLl := spLine_len a
        have HEk : Hid ((pk a.d 4 = 0 ∧ spEv a = ⟨0, 0, spTs a, 0, 0⟩ ∧ spLine a = punctLine (spTs a)) ∨ (EvOk (spEv a) ∧ spLine a = evLine (spEv a))) := by
          by_cases h : pk a.d 4 = 0
          · left; unfold spEv spLine; rw [if_pos h, if_pos h]; exact ⟨h, rfl, rfl⟩
          · right; exact ⟨spEv_ok h, by unfold spLine; rw [if_neg h]⟩
        have HTs := spTs_range a
        obtain ⟨E, HE⟩ := hex (spEv a)
        obtain ⟨SL, HSL⟩ := hex (⟨(spLine a ++ [10]).toArray⟩ : ByteArray)
        have hsl : SL.size ≤ 41 := by rw [HSL.out]; show (spLine a ++ [10]).toArray.size ≤ 41; rw [List.size_toArray, List.length_append]; simp only [List.length_cons, List.length_nil]; omega
        have htx : (⟨(spText (acts.take i)).toArray⟩ : ByteArray).size ≤ 41 * i := by show (spText (acts.take i)).toArray.size ≤ _; rw [List.size_toArray]; exact hsz
        rw [← HE.out, ← HSL.out] at hsp
        obtain ⟨TX, HTX⟩ := hex (⟨(spText (acts.take i)).toArray⟩ : ByteArray)
        rw [← HTX.out] at htx ⊢
        have hcap : ¬ 9223372036854775807 < TX.size + SL.size := by omega
        have bb : ∀ o, o < 8 → wr.cell? ⟨ab, ao + i * 8 + o, none⟩ = a.cells[o]? := fun o ho => (HK.out.bel.cell (p := ⟨ab, ao + i * 8 + o, none⟩) HAL.out.1).trans (HAL.out.2 o ho)
        have a0 := bb 0 (by omega)
        have a1 := bb 1 (by omega)
        have a2 := bb 2 (by omega)
        have a3 := bb 3 (by omega)
        have a4 := bb 4 (by omega)
        have a5 := bb 5 (by omega)
        have a6 := bb 6 (by omega)
        have a7 := bb 7 (by omega)
        simp only [ActR.cells, List.getElem?_cons_zero, List.getElem?_cons_succ, Nat.add_zero] at a0 a1 a2 a3 a4 a5 a6 a7
        clear bb
        go_upto_region 20 with (go_at_call 38; refine (hsp _ HK.out).mono ?_; rintro e v1 ⟨rfl, hv1⟩)
        clear hsp a0 a1 a2 a3 a4 a5 a6 a7
        obtain ⟨v2, HV2⟩ := hex (v1.alloc (.cells (Ev.vals E).toArray 37))
        obtain ⟨vb, HVb⟩ := hex v1.heap.size
        have hw2 : v1.alloc (.cells #[.int .i64 E.src, .int .i64 E.seq, .int .i64 E.ts, .int .i64 E.kind, .int .i64 E.val] 37) = v2 := HV2.out.symm
        have HK2 : Hid (Two w v2 b b' ((vb, 37, Ev.vals E) :: (wb, 71, FedN.vals f) :: bs) X5 Y) := by show Two _ _ _ _ _ _ _; rw [HV2.out, HVb.out]; exact hv1.more 37 (Ev.vals E)
        rw [hw2, ← HVb.out]
        clear hw2 HV2 HVb hv1
        have e0 := (HK2.out.bx (vb, 37, Ev.vals E) (by simp)).cell 0
        have e1 := (HK2.out.bx (vb, 37, Ev.vals E) (by simp)).cell 1
        have e2 := (HK2.out.bx (vb, 37, Ev.vals E) (by simp)).cell 2
        have e3 := (HK2.out.bx (vb, 37, Ev.vals E) (by simp)).cell 3
        have e4 := (HK2.out.bx (vb, 37, Ev.vals E) (by simp)).cell 4
        simp only [Ev.vals, List.getElem?_cons_zero, List.getElem?_cons_succ] at e0 e1 e2 e3 e4
        have HTn : Hid ((⟨(spText (acts.take (i + 1))).toArray⟩ : ByteArray) = TX ++ SL) := by show _ = _; rw [HTk.out, spText_snoc, HTX.out, HSL.out]; exact ByteArray.ext (by simp)
        have hnx : ∀ j, j < 2 → True := fun _ _ => trivial
        rcases HEk.out with ⟨hp4, hEv, hLn⟩ | ⟨hEo, hLn⟩
        · rw [← HE.out] at hEv
          have hk0 : E.kind = 0 := by rw [hEv]
          have HTt : Hid (E.ts = spTs a) := by show _ = _; rw [hEv]
          rw [hk0] at e3
          have hpt : ∀ u bs', Two w u b b' bs' X5 Y → Calls Tryd.prog 30 #[.pointer (some ⟨b', 0, none⟩), .int .i64 k, .int .i64 E.ts] u fun e w' => ∃ z Y', e = .returned (.int .i64 z) ∧ Sp k X5 (spText (acts.take (i + 1))) (f.plus (fedOf z)) Y' ∧ Two w w' b b' bs' X5 Y' := fun u bs' hu => by
            obtain ⟨N, R, hl⟩ := HSp.out.lk
            refine (xpuncts_rel k E.ts hl u hu.my).mono ?_
            rintro e w' ⟨z, Y', he, hP, hev⟩
            rw [HTt.out] at hP
            refine ⟨z, Y', he, ?_, hu.evoY hev⟩
            rw [HTk.out, spText_snoc, hLn]
            exact HSp.out.punct HTs (punct_no10 _) hP
          clear hEv hk0 hp4 hLn
          go_upto_region 25 with (go_at_call 30; refine (hpt _ _ HK2.out).mono ?_; rintro e v3 ⟨z, Y3, rfl, hs3, hk3⟩)
          clear hpt HTt
          have HS3 : Hid (Sp k X5 (spText (acts.take (i + 1))) (f.plus (fedOf z)) Y3) := hs3
          have HK3 : Hid (Two w v3 b b' ((wb, 71, FedN.vals f) :: bs) X5 Y3) := hk3.less (fun x hx => List.mem_cons_of_mem _ hx)
          have HCz : Hid (Cnt (i + 1) (f.plus (fedOf z)) ∧ (f.plus (fedOf z)).bad = 0) := ⟨cnt_plus HCn.out.1 z, by have := HCn.out.2; unfold fedOf FedN.plus; split <;> (simp only; omega)⟩
          have hcq := HCn.out.1
          unfold Cnt at hcq
          clear hs3 hk3 HK2 e0 e1 e2 e3 e4
          have x0 := (HK3.out.bx (wb, 71, FedN.vals f) (by simp)).cell 0
          have x1 := (HK3.out.bx (wb, 71, FedN.vals f) (by simp)).cell 1
          have u0 := (HK3.out.bx (wb, 71, FedN.vals f) (by simp)).frozen 0
          have u1 := (HK3.out.bx (wb, 71, FedN.vals f) (by simp)).frozen 1
          simp only [FedN.vals, List.getElem?_cons_zero, List.getElem?_cons_succ] at x0 x1
          have hv1 : IntKind.i64.wrap (f.good + 1) = f.good + 1 := by rw [IntKind.wrap_i64]; omega
          have hv2 : IntKind.i64.wrap (f.refused + 1) = f.refused + 1 := by rw [IntKind.wrap_i64]; omega
          by_cases hz : z = 0
          · have HFz : Hid (f.plus (fedOf z) = ⟨f.good + 1, f.refused, f.bad⟩) := by show _ = _; unfold fedOf FedN.plus; rw [if_pos hz]; simp
            subst hz
            have HK4 : Hid (Two w (v3.setCell ⟨wb, 0, none⟩ (.int .i64 (f.good + 1))) b b' ((wb, 71, FedN.vals (f.plus (fedOf 0))) :: bs) X5 Y3) := by
              have := HK3.out.set 0 (.int .i64 (f.good + 1)) HWw.out HWn.out
              show Two _ _ _ _ _ _ _
              rw [HFz.out]
              exact this
            go_wp2
            go_roundw
            case rel => exact ⟨i + 1, f.plus (fedOf 0), Y3, by omega, by rw [HTn.out], by go_num, HK4.out, HS3.out, HCz.out⟩
            case measure => simp [intOf]; omega
          · have HFz : Hid (f.plus (fedOf z) = ⟨f.good, f.refused + 1, f.bad⟩) := by show _ = _; unfold fedOf FedN.plus; rw [if_neg hz]; simp
            have hzz : (z == 0) = false := by rw [beq_eq_false_iff_ne]; exact hz
            have HK4 : Hid (Two w (v3.setCell ⟨wb, 1, none⟩ (.int .i64 (f.refused + 1))) b b' ((wb, 71, FedN.vals (f.plus (fedOf z))) :: bs) X5 Y3) := by
              have := HK3.out.set 1 (.int .i64 (f.refused + 1)) HWw.out HWn.out
              show Two _ _ _ _ _ _ _
              rw [HFz.out]
              exact this
            go_wp2
            go_roundw
            case rel => exact ⟨i + 1, f.plus (fedOf z), Y3, by omega, by rw [HTn.out], by go_num, HK4.out, HS3.out, HCz.out⟩
            case measure => simp [intOf]; omega
        · have hkn : (E.kind == 0) = false := by rw [beq_eq_false_iff_ne, HE.out]; have := hEo.kind; omega
          have hkn' : ¬ E.kind = 0 := by rw [HE.out]; have := hEo.kind; omega
          have hps : ∀ u bs', Two w u b b' bs' X5 Y → Calls Tryd.prog 31 #[.pointer (some ⟨b', 0, none⟩), .int .i64 k, .agg #[.int .i64 E.src, .int .i64 E.seq, .int .i64 E.ts, .int .i64 E.kind, .int .i64 E.val]] u fun e w' => ∃ z Y', e = .returned (.int .i64 z) ∧ Sp k X5 (spText (acts.take (i + 1))) (f.plus (fedOf z)) Y' ∧ Two w w' b b' bs' X5 Y' := fun u bs' hu => by
            obtain ⟨N, R, hl⟩ := HSp.out.lk
            refine (xpushes_rel k E hl u hu.my).mono ?_
            rintro e w' ⟨z, Y', he, hP, hev⟩
            refine ⟨z, Y', he, ?_, hu.evoY hev⟩
            rw [HTk.out, spText_snoc, hLn]
            rw [HE.out] at hP
            exact HSp.out.push hEo (ev_no10 hEo) hP
          clear hLn hEo
          go_upto_region 25 with (go_at_call 31; refine (hps _ _ HK2.out).mono ?_; rintro e v3 ⟨z, Y3, rfl, hs3, hk3⟩)
          clear hps hkn hkn'
          have HS3 : Hid (Sp k X5 (spText (acts.take (i + 1))) (f.plus (fedOf z)) Y3) := hs3
          have HK3 : Hid (Two w v3 b b' ((wb, 71, FedN.vals f) :: bs) X5 Y3) := hk3.less (fun x hx => List.mem_cons_of_mem _ hx)
          have HCz : Hid (Cnt (i + 1) (f.plus (fedOf z)) ∧ (f.plus (fedOf z)).bad = 0) := ⟨cnt_plus HCn.out.1 z, by have := HCn.out.2; unfold fedOf FedN.plus; split <;> (simp only; omega)⟩
          have hcq := HCn.out.1
          unfold Cnt at hcq
          clear hs3 hk3 HK2 e0 e1 e2 e3 e4
          have x0 := (HK3.out.bx (wb, 71, FedN.vals f) (by simp)).cell 0
          have x1 := (HK3.out.bx (wb, 71, FedN.vals f) (by simp)).cell 1
          have u0 := (HK3.out.bx (wb, 71, FedN.vals f) (by simp)).frozen 0
          have u1 := (HK3.out.bx (wb, 71, FedN.vals f) (by simp)).frozen 1
          simp only [FedN.vals, List.getElem?_cons_zero, List.getElem?_cons_succ] at x0 x1
          have hv1 : IntKind.i64.wrap (f.good + 1) = f.good + 1 := by rw [IntKind.wrap_i64]; omega
          have hv2 : IntKind.i64.wrap (f.refused + 1) = f.refused + 1 := by rw [IntKind.wrap_i64]; omega
          by_cases hz : z = 0
          · have HFz : Hid (f.plus (fedOf z) = ⟨f.good + 1, f.refused, f.bad⟩) := by show _ = _; unfold fedOf FedN.plus; rw [if_pos hz]; simp
            subst hz
            have HK4 : Hid (Two w (v3.setCell ⟨wb, 0, none⟩ (.int .i64 (f.good + 1))) b b' ((wb, 71, FedN.vals (f.plus (fedOf 0))) :: bs) X5 Y3) := by
              have := HK3.out.set 0 (.int .i64 (f.good + 1)) HWw.out HWn.out
              show Two _ _ _ _ _ _ _
              rw [HFz.out]
              exact this
            go_wp2
            go_roundw
            case rel => exact ⟨i + 1, f.plus (fedOf 0), Y3, by omega, by rw [HTn.out], by go_num, HK4.out, HS3.out, HCz.out⟩
            case measure => simp [intOf]; omega
          · have HFz : Hid (f.plus (fedOf z) = ⟨f.good, f.refused + 1, f.bad⟩) := by show _ = _; unfold fedOf FedN.plus; rw [if_neg hz]; simp
            have hzz : (z == 0) = false := by rw [beq_eq_false_iff_ne]; exact hz
            have HK4 : Hid (Two w (v3.setCell ⟨wb, 1, none⟩ (.int .i64 (f.refused + 1))) b b' ((wb, 71, FedN.vals (f.plus (fedOf z))) :: bs) X5 Y3) := by
              have := HK3.out.set 1 (.int .i64 (f.refused + 1)) HWw.out HWn.out
              show Two _ _ _ _ _ _ _
              rw [HFz.out]
              exact this
            go_wp2
            go_roundw
            case rel => exact ⟨i + 1, f.plus (fedOf z), Y3, by omega, by rw [HTn.out], by go_num, HK4.out, HS3.out, HCz.out⟩
            case measure => simp [intOf]; omega
      · have hend : ¬ ((i : Int) < (acts.length : Int)) ∨ ((i : Int) < (acts.length : Int) ∧ ¬ ((i : Int) < 40)) := by omega
        have hsx : (⟨(spText (acts.take i)).toArray⟩ : ByteArray).size ≤ 2000 := by show (spText (acts.take i)).toArray.size ≤ _; rw [List.size_toArray]; omega
        have HTd : Hid ((⟨(spText (acts.take i)).toArray⟩ : ByteArray).data.toList = spText (acts.take i)) := rfl
        obtain ⟨TX, HTX⟩ := hex (⟨(spText (acts.take i)).toArray⟩ : ByteArray)
        rw [← HTX.out] at hsx HTd ⊢
        clear hle
        have hfx : ∀ u, Two w u b b' ((wb, 71, FedN.vals f) :: bs) X5 Y → Calls Tryd.prog 35 #[.pointer (some ⟨b, 0, none⟩), .int .i64 k, .string TX] u fun e w' => ∃ X', e = .returned (.tuple #[.agg #[.int .i64 (FedN.good f), .int .i64 (FedN.refused f), .int .i64 (FedN.bad f)], .int .i64 0]) ∧ Twin (fun _ => True) X' Y ∧ Two w w' b b' ((wb, 71, FedN.vals f) :: bs) X' Y := fun u hu => by
          obtain ⟨N, R, hl⟩ := HLx.out
          refine (xfeed_run N b X5 R k TX u hu.mx hl hsx (by rw [HLX.out]; exact hkn)).mono ?_
          rintro e w' ⟨g, Z, tr, he, hr, hev⟩
          have hrr := runX_runs hr
          rw [HTd.out] at hrr
          obtain ⟨hg, ht⟩ := HSp.out.run _ _ hrr
          rw [hg] at he
          exact ⟨Z, he, ht, hu.evoX hev⟩
        rcases hend with hnl | ⟨hl1, hl2⟩
        · go_upto_region 29 with (go_at_call 35; refine (hfx _ HK.out).mono ?_; rintro e v1 ⟨X7, rfl, ht7, hk7⟩)
          have HT7 : Hid (Twin (fun _ => True) X7 Y) := ht7
          have HK7 : Hid (Two w v1 b b' ((wb, 71, FedN.vals f) :: bs) X7 Y) := hk7
          clear hfx ht7 hk7
          obtain ⟨v2, HWv2⟩ := hex (v1.alloc (.cells (FedN.vals f).toArray 71))
          obtain ⟨fb, HBfb⟩ := hex v1.heap.size
          have hwv2 : v1.alloc (.cells #[.int .i64 f.good, .int .i64 f.refused, .int .i64 f.bad] 71) = v2 := HWv2.out.symm
          have HK8 : Hid (Two w v2 b b' ((fb, 71, FedN.vals f) :: (wb, 71, FedN.vals f) :: bs) X7 Y) := by show Two _ _ _ _ _ _ _; rw [HWv2.out, HBfb.out]; exact HK7.out.more 71 (FedN.vals f)
          rw [hwv2, ← HBfb.out]
          clear hwv2 HWv2 HBfb
          have x0 := (HK8.out.bx (fb, 71, FedN.vals f) (by simp)).cell 0
          have x1 := (HK8.out.bx (fb, 71, FedN.vals f) (by simp)).cell 1
          have x2 := (HK8.out.bx (fb, 71, FedN.vals f) (by simp)).cell 2
          have z0 := (HK8.out.bx (wb, 71, FedN.vals f) (by simp)).cell 0
          have z1 := (HK8.out.bx (wb, 71, FedN.vals f) (by simp)).cell 1
          have z2 := (HK8.out.bx (wb, 71, FedN.vals f) (by simp)).cell 2
          have k0 := (HK8.out.bx (cb, 26, c.vals) (by simp [HBs.out])).cell 0
          simp only [Cfg.vals, FedN.vals, List.getElem?_cons_zero, List.getElem?_cons_succ] at x0 x1 x2 z0 z1 z2 k0
          have HK9 : Hid (Two w v2 b b' bs X7 Y) := HK8.out.less (fun x hx => List.mem_cons_of_mem _ (List.mem_cons_of_mem _ hx))
          have hal : ∀ u, Two w u b b' bs X7 Y → Calls Tryd.prog 32 #[.pointer (some ⟨b, 0, none⟩), .pointer (some ⟨b', 0, none⟩), .int .i64 c.sources] u fun e w' => e = .returned (.bool true) ∧ Two w w' b b' bs X7 Y := fun u hu => by
            rw [HNn.out]
            exact (alike_true b b' n X7 Y u hu.mx hu.my HT7.out hn6.2).mono fun e w' ⟨he, hb⟩ => ⟨he, hu.below hb⟩
          go_wp2_with (first
            | (go_at_call 32; refine (hal _ HK9.out).mono ?_; rintro e w16 ⟨rfl, hv6⟩; have k0 := (hv6.bx (cb, 26, c.vals) (HBs.out ▸ by simp)).cell 0; have k1 := (hv6.bx (cb, 26, c.vals) (HBs.out ▸ by simp)).cell 1; have k2 := (hv6.bx (cb, 26, c.vals) (HBs.out ▸ by simp)).cell 2; have k3 := (hv6.bx (cb, 26, c.vals) (HBs.out ▸ by simp)).cell 3; have k4 := (hv6.bx (cb, 26, c.vals) (HBs.out ▸ by simp)).cell 4; have k5 := (hv6.bx (cb, 26, c.vals) (HBs.out ▸ by simp)).cell 5; simp only [Cfg.vals, List.getElem?_cons_zero, List.getElem?_cons_succ] at k0 k1 k2 k3 k4 k5)
            | (go_at_call 18; refine (HFl.out _).mono ?_; rintro e v7 ⟨rfl, hb7⟩))
          go_ret
          exact ⟨rfl, hv6.bel.trans (hb7.mono hv6.bel.size)⟩
        · go_upto_region 29 with (go_at_call 35; refine (hfx _ HK.out).mono ?_; rintro e v1 ⟨X7, rfl, ht7, hk7⟩)
          have HT7 : Hid (Twin (fun _ => True) X7 Y) := ht7
          have HK7 : Hid (Two w v1 b b' ((wb, 71, FedN.vals f) :: bs) X7 Y) := hk7
          clear hfx ht7 hk7
          obtain ⟨v2, HWv2⟩ := hex (v1.alloc (.cells (FedN.vals f).toArray 71))
          obtain ⟨fb, HBfb⟩ := hex v1.heap.size
          have hwv2 : v1.alloc (.cells #[.int .i64 f.good, .int .i64 f.refused, .int .i64 f.bad] 71) = v2 := HWv2.out.symm
          have HK8 : Hid (Two w v2 b b' ((fb, 71, FedN.vals f) :: (wb, 71, FedN.vals f) :: bs) X7 Y) := by show Two _ _ _ _ _ _ _; rw [HWv2.out, HBfb.out]; exact HK7.out.more 71 (FedN.vals f)
          rw [hwv2, ← HBfb.out]
          clear hwv2 HWv2 HBfb
          have x0 := (HK8.out.bx (fb, 71, FedN.vals f) (by simp)).cell 0
          have x1 := (HK8.out.bx (fb, 71, FedN.vals f) (by simp)).cell 1
          have x2 := (HK8.out.bx (fb, 71, FedN.vals f) (by simp)).cell 2
          have z0 := (HK8.out.bx (wb, 71, FedN.vals f) (by simp)).cell 0
          have z1 := (HK8.out.bx (wb, 71, FedN.vals f) (by simp)).cell 1
          have z2 := (HK8.out.bx (wb, 71, FedN.vals f) (by simp)).cell 2
          have k0 := (HK8.out.bx (cb, 26, c.vals) (by simp [HBs.out])).cell 0
          simp only [Cfg.vals, FedN.vals, List.getElem?_cons_zero, List.getElem?_cons_succ] at x0 x1 x2 z0 z1 z2 k0
          have HK9 : Hid (Two w v2 b b' bs X7 Y) := HK8.out.less (fun x hx => List.mem_cons_of_mem _ (List.mem_cons_of_mem _ hx))
          have hal : ∀ u, Two w u b b' bs X7 Y → Calls Tryd.prog 32 #[.pointer (some ⟨b, 0, none⟩), .pointer (some ⟨b', 0, none⟩), .int .i64 c.sources] u fun e w' => e = .returned (.bool true) ∧ Two w w' b b' bs X7 Y := fun u hu => by
            rw [HNn.out]
            exact (alike_true b b' n X7 Y u hu.mx hu.my HT7.out hn6.2).mono fun e w' ⟨he, hb⟩ => ⟨he, hu.below hb⟩
          go_wp2_with (first
            | (go_at_call 32; refine (hal _ HK9.out).mono ?_; rintro e w16 ⟨rfl, hv6⟩; have k0 := (hv6.bx (cb, 26, c.vals) (HBs.out ▸ by simp)).cell 0; have k1 := (hv6.bx (cb, 26, c.vals) (HBs.out ▸ by simp)).cell 1; have k2 := (hv6.bx (cb, 26, c.vals) (HBs.out ▸ by simp)).cell 2; have k3 := (hv6.bx (cb, 26, c.vals) (HBs.out ▸ by simp)).cell 3; have k4 := (hv6.bx (cb, 26, c.vals) (HBs.out ▸ by simp)).cell 4; have k5 := (hv6.bx (cb, 26, c.vals) (HBs.out ▸ by simp)).cell 5; simp only [Cfg.vals, List.getElem?_cons_zero, List.getElem?_cons_succ] at k0 k1 k2 k3 k4 k5)
            | (go_at_call 18; refine (HFl.out _).mono ?_; rintro e v7 ⟨rfl, hb7⟩))
          go_ret
          exact ⟨rfl, hv6.bel.trans (hb7.mono hv6.bel.size)⟩
end Go.Proofs.YtghcololkgeoeaaDoor
