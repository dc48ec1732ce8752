import Derived.Test.YtghcololkgeoeaaDoorPartO2
import Derived.Test.YtghcololkgeoeaaDoorPartL0
import Derived.Test.YtghcololkgeoeaaDoorPartA0
import Derived.Deep.CutBlock
import Derived.Test.YtghcololkgeoeaaDoorPartK9
import Derived.Test.YtghcololkgeoeaaDoorPartL2
import Derived.Deep.QuietTactic
import Derived.BigQuiet
namespace Go.Proofs.YtghcololkgeoeaaDoor
open Go.RowKit
set_option linter.unusedVariables false
set_option linter.unusedSimpArgs false
attribute [local go_sem ↓] Go.wp_at_zero Go.wp_at_succ

structure JW (w wr : World) (cb pb gb : Nat) (c : Cfg) (P : Pl) (G : LG) : Prop where
  bel : Below w.heap.size w wr
  mp : MemP wr pb P
  ml : MemL wr gb G
  dis : ∀ k, some k ∈ G.fp gb → some k ∉ P.fp pb
  fg : ∀ k, some k ∈ G.fp gb → w.heap.size ≤ k
  cfg : Blk wr cb 26 c.vals
  ncb : some cb ∉ G.fp gb
theorem JW.evo {w wr w' : World} {cb pb gb : Nat} {c : Cfg} {P : Pl} {G G' : LG} (h : JW w wr cb pb gb c P G) (e : EvoL wr gb G w' G') : JW w w' cb pb gb c P G' := by
  refine ⟨kept_toBelow h.bel e.kept h.fg, h.mp.kept e.kept (fun k hk hg => h.dis k hg hk), e.mem, ?_, ?_, h.cfg.kept e.kept h.ncb, ?_⟩
  · intro k hk hp
    rcases e.grow k hk with f | f
    · exact h.dis k f hp
    · have := h.mp.fp_lt k hp; omega
  · intro k hk
    rcases e.grow k hk with f | f
    · exact h.fg k f
    · exact Nat.le_trans h.bel.size f
  · intro hk
    rcases e.grow cb hk with f | f
    · exact h.ncb f
    · have := h.cfg.lt; omega
theorem JW.below {w wr w' : World} {cb pb gb : Nat} {c : Cfg} {P : Pl} {G : LG} (h : JW w wr cb pb gb c P G) (hb : Below wr.heap.size wr w') : JW w w' cb pb gb c P G := h.evo (EvoL.below h.ml hb)
def jAll (sl : Int) (A : Nat → List PA) (s : Nat) : List Ev := (List.range s).flatMap (fun t => (jd sl (A t)).2.1)
def jAs (sl : Int) (A : Nat → List PA) (s : Nat) : List Ev := (List.range s).flatMap (fun t => (jd sl (A t)).2.2)
theorem jAll_succ (sl : Int) (A : Nat → List PA) (s : Nat) : jAll sl A (s + 1) = jAll sl A s ++ (jd sl (A s)).2.1 ∧ jAs sl A (s + 1) = jAs sl A s ++ (jd sl (A s)).2.2 := by
  unfold jAll jAs
  rw [List.range_succ, List.flatMap_append, List.flatMap_append]
  simp
theorem jAll_kp (sl : Int) (A : Nat → List PA) (n : Nat) : jAll sl A n = kpAll sl n A (fun s => (A s).length) ∧ jAs sl A n = asAll sl n A (fun s => (A s).length) := by
  unfold jAll jAs kpAll asAll
  constructor
  · congr 1; funext s; rw [List.take_length]
  · congr 1; funext s; rw [List.take_length]
theorem j_len {c : Cfg} {n s : Nat} {A : Nat → List PA} (ha : AOk c n A) (hs : s < n) (j : Nat) : (jAll c.slack A s ++ (jd c.slack ((A s).take j)).2.1).length ≤ 192 ∧ (jAs c.slack A s ++ (jd c.slack ((A s).take j)).2.2).length ≤ 192 := by
  have hb : ∀ t, t < n → ∀ i, (jd c.slack ((A t).take i)).2.1.length ≤ 32 ∧ (jd c.slack ((A t).take i)).2.2.length ≤ 32 := by
    intro t ht i
    have h1 := (jd_mem c.slack ((A t).take i)).2.2
    have h2 := pushesN_take (A t) i
    have h3 := ha.cnt t ht
    have h4 := ha.room
    omega
  have h6 := ha.n6
  constructor
  · rw [List.length_append]
    have h1 := flat_len (f := fun t => (jd c.slack (A t)).2.1) (B := 32) (n := s) (fun t ht => by have := (hb t (by omega) (A t).length).1; rw [List.take_length] at this; exact this)
    have h2 := (hb s hs j).1
    unfold jAll; omega
  · rw [List.length_append]
    have h1 := flat_len (f := fun t => (jd c.slack (A t)).2.2) (B := 32) (n := s) (fun t ht => by have := (hb t (by omega) (A t).length).2; rw [List.take_length] at this; exact this)
    have h2 := (hb s hs j).2
    unfold jAs; omega
set_option maxRecDepth 100000 in
set_option maxHeartbeats 16000000 in
theorem judged_any (c : Cfg) (n : Nat) (sa : Option Addr) (sc : Nat) (S : List (List ActR)) (w : World) (hn : c.sources = n) (hok : c.ok) (hpol : c.policy ≤ 1) (hs : StrAt w sa S) (hl : ∀ l ∈ S, l.length ≤ 1099511627776) (hS : S.length ≤ 9000000000000) :
    Calls Tryd.prog 25 #[.agg #[.int .i64 c.sources, .int .i64 c.slack, .int .i64 c.policy, .int .i64 c.room, .int .i64 c.idle, .string c.pat], .slice sa S.length sc] w fun e w' => ∃ gb, e = .returned (.pointer (some ⟨gb, 0, none⟩)) ∧ ∃ G, MemL w' gb G ∧ (∀ k, some k ∈ G.fp gb → w.heap.size ≤ k) ∧ Below w.heap.size w w' ∧ G.all = kpAll c.slack n (fun s => (planL c.room S n)[s]?.getD []) (fun s => ((fun s => (planL c.room S n)[s]?.getD []) s).length) ∧ G.aside = asAll c.slack n (fun s => (planL c.room S n)[s]?.getD []) (fun s => ((fun s => (planL c.room S n)[s]?.getD []) s).length) := by
  obtain ⟨j0, hj0, hy0, hy1, hy2⟩ := info_parts Tryd.infoEv
  have hft := hok.1
  unfold Cfg.fits at hft
  have hn6 : 1 ≤ n ∧ n ≤ 6 := by omega
  have hroom : 1 ≤ c.room ∧ c.room ≤ 32 := by omega
  have hsl : 0 ≤ c.slack ∧ c.slack ≤ 1000 := by omega
  have HAok : Hid (AOk c n (fun s => (planL c.room S n)[s]?.getD [])) := plan_aok hn6.2 hroom (by omega) (by omega) hl
  have HNn : Hid (c.sources = n) := hn
  have HPl : Hid (∀ u, Below w.heap.size w u → Calls Tryd.prog 44 #[.agg #[.int .i64 c.sources, .int .i64 c.slack, .int .i64 c.policy, .int .i64 c.room, .int .i64 c.idle, .string c.pat], .slice sa S.length sc] u fun e w' => ∃ pb, e = .returned (.pointer (some ⟨pb, 0, none⟩)) ∧ ∃ P, MemP w' pb P ∧ (∀ k, some k ∈ P.fp pb → u.heap.size ≤ k) ∧ Below u.heap.size u w' ∧ P.L = planL c.room S n ∧ P.K = List.replicate n 0) := fun u hu => plan_any c n sa sc S u hn hn6.2 hroom (hs.below hu) hl hS
  have HLl : Hid (∀ l ∈ planL c.room S n, l.length ≤ 1099511627776) := by
    intro l hl'
    unfold planL at hl'
    obtain ⟨s, _, rfl⟩ := List.mem_map.1 hl'
    have h1 := (planTo_ok (room := c.room) (by omega) s (rawOf S s) (rawOf S s).length).len
    have h2 : (rawOf S s).length ≤ 1099511627776 := by
      unfold rawOf
      cases h : S[s]? with
      | none => simp
      | some l => exact hl l (List.mem_of_getElem? h)
    unfold planS; omega
  clear hn hok hs hl hft
  obtain ⟨w1, HW1⟩ := hex ((w.alloc (.cells c.vals.toArray 26)).alloc (.cells #[.slice none 0 0, .slice none 0 0] 50))
  obtain ⟨cb, HCb⟩ := hex w.heap.size
  obtain ⟨gb, HGb⟩ := hex (w.heap.size + 1)
  have HC1 : Hid (Blk w1 cb 26 c.vals ∧ Below w.heap.size w w1 ∧ MemL w1 gb LG0) := by
    show _ ∧ _ ∧ _
    have bx : Blk w1 gb 50 [.slice none 0 0, .slice none 0 0] := by
      rw [HW1.out, HGb.out]; have := blk_alloc (w.alloc (.cells c.vals.toArray 26)) [.slice none 0 0, .slice none 0 0] 50; simpa using this
    refine ⟨?_, ?_, ⟨bx, Row.nil _ _ _, Row.nil _ _ _, ?_⟩⟩
    · rw [HW1.out, HCb.out]; exact (blk_alloc _ _ _).alloc _
    · rw [HW1.out]; exact ((Below.refl _ _).alloc (Nat.le_refl _) _).alloc (by simp) _
    · intro i j k hi hj
      have key : ∀ i, ([some gb, none, none] : List (Option Nat))[i]? = some (some k) → i = 0 := by
        intro i hi
        match i with
        | 0 => rfl
        | 1 => simp at hi
        | 2 => simp at hi
        | i + 3 => simp at hi
      rw [key i hi, key j hj]
  have hw1 : (w.alloc (.cells #[.int .i64 c.sources, .int .i64 c.slack, .int .i64 c.policy, .int .i64 c.room, .int .i64 c.idle, .string c.pat] 26)).alloc (.cells #[.slice none 0 0, .slice none 0 0] 50) = w1 := HW1.out.symm
  have hgw : w.heap.size ≤ gb ∧ cb ≠ gb := by have := HGb.out; have := HCb.out; omega
  go_enter Tryd.func25, Tryd.ntmps25
  go_upto_region 2 with fail
  rw [← HGb.out, ← HCb.out]
  clear hw1 HW1 HGb HCb
  have k0 := (HC1.out.1).cell 0
  have k1 := (HC1.out.1).cell 1
  have k2 := (HC1.out.1).cell 2
  have k3 := (HC1.out.1).cell 3
  have k4 := (HC1.out.1).cell 4
  have k5 := (HC1.out.1).cell 5
  simp only [Cfg.vals, List.getElem?_cons_zero, List.getElem?_cons_succ] at k0 k1 k2 k3 k4 k5
  go_upto_region 3 with (go_at_call 44; refine (HPl.out _ HC1.out.2.1).mono ?_; rintro e w4 ⟨pb, rfl, P, hp4, hf4, hb4, hL4, hK4⟩)
  clear k0 k1 k2 k3 k4 k5
  have HJ0 : Hid (JW w w4 cb pb gb c P LG0) := by
    refine ⟨HC1.out.2.1.trans (hb4.mono HC1.out.2.1.size), hp4, HC1.out.2.2.kept (below_kept hb4 (fun _ => False)) (fun _ _ e => e), ?_, ?_, HC1.out.1.below hb4 HC1.out.1.lt, ?_⟩
    · intro k hk hp
      have h1 := HC1.out.2.2.fp_lt k hk
      have h2 := hf4 k hp
      omega
    · intro k hk
      have hk : some k ∈ ([some gb, none, none] : List (Option Nat)) := hk
      simp at hk; rw [hk]; exact hgw.1
    · intro hk
      have hk : some cb ∈ ([some gb, none, none] : List (Option Nat)) := hk
      simp at hk; exact hgw.2 hk
  have HPL : Hid (P.L = planL c.room S n) := hL4
  have HPA : Hid (P.A = (fun s => (planL c.room S n)[s]?.getD [])) := by show _ = _; funext t; unfold Pl.A; rw [hL4]
  have HAo : Hid (AOk c n P.A) := by show AOk _ _ _; rw [HPA.out]; exact HAok.out
  clear hp4 hf4 hb4 hL4 hK4 HPl HC1 HAok
  go_wp2
  go_loopw [7] (fun sv wr => ∃ (s : Nat) (G : LG), s ≤ n ∧ sv = .int .i64 s ∧ JW w wr cb pb gb c P G ∧ G.all = jAll c.slack P.A s ∧ G.aside = jAs c.slack P.A s) (fun sv _ => n - (intOf sv).toNat)
  case atStart => exact ⟨0, LG0, Nat.zero_le _, rfl, HJ0.out, rfl, rfl⟩
  case round =>
    clear HJ0
    obtain ⟨s, G, hsn, rfl, hj, hG1, hG2⟩ := hrel
    have HJ : Hid (JW w wr cb pb gb c P G) := hj
    have HG0 : Hid (G.all = jAll c.slack P.A s ∧ G.aside = jAs c.slack P.A s) := ⟨hG1, hG2⟩
    clear hj hG1 hG2
    have k0 := HJ.out.cfg.cell 0
    simp only [Cfg.vals, List.getElem?_cons_zero] at k0
    rw [HNn.out] at k0
    by_cases hlt : s < n
    · have hlt' : (s : Int) < (n : Int) := by omega
      have hs0 : (0 : Int) ≤ (s : Int) := by omega
      go_upto_region 7 with fail
      obtain ⟨wo, HWo⟩ := hex wr
      rw [← HWo.out] at HJ
      rw [← HWo.out]
      clear HWo k0
      go_wp2
      go_loopw [8, 9] (fun mv iv wr => ∃ (j : Nat) (G : LG), j ≤ (P.A s).length ∧ mv = .int .i64 (jd c.slack ((P.A s).take j)).1 ∧ iv = .int .i64 j ∧ JW w wr cb pb gb c P G ∧ G.all = jAll c.slack P.A s ++ (jd c.slack ((P.A s).take j)).2.1 ∧ G.aside = jAs c.slack P.A s ++ (jd c.slack ((P.A s).take j)).2.2) (fun _ iv _ => (P.A s).length - (intOf iv).toNat)
      case atStart => exact ⟨0, G, Nat.zero_le _, rfl, rfl, HJ.out, by rw [HG0.out.1]; simp [jd], by rw [HG0.out.2]; simp [jd]⟩
      case round =>
        clear HJ HG0
        obtain ⟨j, G, hj, rfl, rfl, hjw, hG1, hG2⟩ := hrel
        have HJ : Hid (JW w wr cb pb gb c P G) := hjw
        have HG : Hid (G.all = jAll c.slack P.A s ++ (jd c.slack ((P.A s).take j)).2.1 ∧ G.aside = jAs c.slack P.A s ++ (jd c.slack ((P.A s).take j)).2.2) := ⟨hG1, hG2⟩
        have hln : G.all.length ≤ 192 ∧ G.aside.length ≤ 192 := by rw [hG1, hG2]; exact j_len HAo.out hlt j
        clear hjw hG1 hG2
        obtain ⟨mk, HMk0⟩ := hex (jd c.slack ((P.A s).take j)).1
        rw [← HMk0.out]
        have hsL : s < P.L.length := by rw [HPL.out, planL_len]; exact hlt
        obtain ⟨og, tg, m, l, hpa, hta, hms, hls, x0, _, _⟩ := HJ.out.mp.at_s s hsL
        have hlA : P.A s = l := by unfold Pl.A; rw [hls]; rfl
        have b0 := HJ.out.mp.box.cell 0
        simp only [List.getElem?_cons_zero, List.getElem?_cons_succ] at b0
        rw [hpa] at b0
        obtain ⟨nL, HNL⟩ := hex P.L.length
        rw [← HNL.out] at b0
        have hsL' : (s : Int) < (nL : Int) := by rw [HNL.out]; omega
        obtain ⟨nl, HNl⟩ := hex l.length
        rw [← HNl.out] at x0
        have hjn : j ≤ nl := by rw [HNl.out, ← hlA]; exact hj
        have hnl : nl ≤ 1099511627776 := by rw [HNl.out]; exact HLl.out l (by rw [← HPL.out]; exact List.mem_of_getElem? hls)
        have HAl : Hid ((P.A s).length = nl) := by show _ = _; rw [hlA, HNl.out]
        have hj0' : (0 : Int) ≤ (j : Int) := by omega
        by_cases hjl : j < nl
        · have hjl' : (j : Int) < (nl : Int) := by omega
          have hjA : j + 1 ≤ (P.A s).length := by rw [HAl.out]; omega
          obtain ⟨a, hga⟩ : ∃ a, l[j]? = some a := ⟨l[j]'(by rw [← HNl.out]; exact hjl), List.getElem?_eq_getElem _⟩
          obtain ⟨g, hg, hgl, hgc⟩ := HJ.out.mp.acts hms hls hga
          obtain ⟨ma, mc⟩ := m
          have hg : ma = some ⟨g, 0, none⟩ := hg
          subst hg
          have HEv : Hid (-2000 ≤ a.E.ts ∧ a.E.ts ≤ 2000) := by
            have := HAo.out.ev s hlt a (by rw [hlA]; exact List.mem_of_getElem? hga)
            exact ⟨this.2.2.2.1, this.2.2.2.2.1⟩
          have HJs : Hid (jd c.slack ((P.A s).take (j + 1)) = jstep c.slack (jd c.slack ((P.A s).take j)) a) := by
            show _ = _
            rw [hlA]
            obtain ⟨hlt2, e2⟩ := List.getElem?_eq_some_iff.1 hga
            rw [List.take_succ_eq_append_getElem hlt2, jd_snoc, e2]
          have HGc : Hid (∀ o, o < 8 → wr.cell? ⟨g, j * 8 + o, none⟩ = a.cells[o]?) := hgc
          have a0 := HGc.out 0 (by omega)
          have a1 := HGc.out 1 (by omega)
          have a2 := HGc.out 2 (by omega)
          have a3 := HGc.out 3 (by omega)
          have a4 := HGc.out 4 (by omega)
          have a5 := HGc.out 5 (by omega)
          have a6 := HGc.out 6 (by omega)
          have a7 := HGc.out 7 (by omega)
          simp only [PA.cells, List.getElem?_cons_zero, List.getElem?_cons_succ, Nat.add_zero] at a0 a1 a2 a3 a4 a5 a6 a7
          obtain ⟨d, HD⟩ := hex (if a.push then (2 : Int) else 4)
          rw [← HD.out] at a0
          have htr := HEv.out
          clear hgc hga hms hls hpa hta hlA HGc hgl
          go_upto_region 11 with fail
          obtain ⟨w2, HW2⟩ := hex (wr.alloc (.cells ([.int .i64 d, .int .i64 a.E.src, .int .i64 0, .int .i64 a.E.src, .int .i64 a.E.seq, .int .i64 a.E.ts, .int .i64 a.E.kind, .int .i64 a.E.val] : List Value).toArray 39))
          obtain ⟨ab, HAb⟩ := hex wr.heap.size
          have hw2 : wr.alloc (.cells #[.int .i64 d, .int .i64 a.E.src, .int .i64 0, .int .i64 a.E.src, .int .i64 a.E.seq, .int .i64 a.E.ts, .int .i64 a.E.kind, .int .i64 a.E.val] 39) = w2 := HW2.out.symm
          have HB2 : Hid (Blk w2 ab 39 [.int .i64 d, .int .i64 a.E.src, .int .i64 0, .int .i64 a.E.src, .int .i64 a.E.seq, .int .i64 a.E.ts, .int .i64 a.E.kind, .int .i64 a.E.val]) := by show Blk _ _ _ _; rw [HW2.out, HAb.out]; exact blk_alloc _ _ _
          have HJ2 : Hid (JW w w2 cb pb gb c P G) := by show JW _ _ _ _ _ _ _ _; rw [HW2.out]; exact HJ.out.below ((Below.refl _ _).alloc (Nat.le_refl _) _)
          have HNg : Hid (some ab ∉ G.fp gb) := fun e => by have h1 := HJ.out.ml.fp_lt ab e; have h2 := HAb.out; omega
          rw [hw2, ← HAb.out]
          clear hw2 HW2 HAb HJ b0 x0 a0 a1 a2 a3 a4 a5 a6 a7
          have a0 := HB2.out.cell 0
          have a1 := HB2.out.cell 1
          have a2 := HB2.out.cell 2
          have a3 := HB2.out.cell 3
          have a4 := HB2.out.cell 4
          have a5 := HB2.out.cell 5
          have a6 := HB2.out.cell 6
          have a7 := HB2.out.cell 7
          simp only [List.getElem?_cons_zero, List.getElem?_cons_succ] at a0 a1 a2 a3 a4 a5 a6 a7
          have k1 := HJ2.out.cfg.cell 1
          simp only [Cfg.vals, List.getElem?_cons_zero, List.getElem?_cons_succ] at k1
          have hwu : IntKind.i64.wrap (a.E.ts - c.slack) = a.E.ts - c.slack := by rw [IntKind.wrap_i64]; omega
          cases hpu : a.push with
          | true =>
            have hd : d = 2 := by rw [HD.out, hpu]; rfl
            have HPu : Hid (a.push = true) := hpu
            subst hd
            clear hpu HD
            by_cases hlate : a.E.ts < mk
            · have hup : ¬ mk < a.E.ts - c.slack := by omega
              have hupd : decide (mk < a.E.ts - c.slack) = false := by simpa using hup
              go_upto_region 15 with fail
              obtain ⟨wq, HWq⟩ := hex w2
              rw [← HWq.out] at HB2 HJ2
              rw [← HWq.out]
              clear HWq
              have cx : wq.cell? ⟨gb, 1, none⟩ = some (.slice G.da G.aside.length G.dc) := HJ2.out.ml.blk.cell 1
              have HRow : Hid (Row wq 37 5 G.da G.aside.length G.dc (evs G.aside)) := HJ2.out.ml.rd
              have HNe : Hid (¬ some ab ∈ G.fp gb) := HNg.out
              refine upTo_region (fun u : World => u.cell? ⟨gb, 1, none⟩ = some (.slice G.da G.aside.length G.dc) ∧ u.cell? ⟨ab, 3, none⟩ = some (.int .i64 a.E.src) ∧ u.cell? ⟨ab, 4, none⟩ = some (.int .i64 a.E.seq) ∧ u.cell? ⟨ab, 5, none⟩ = some (.int .i64 a.E.ts) ∧ u.cell? ⟨ab, 6, none⟩ = some (.int .i64 a.E.kind) ∧ u.cell? ⟨ab, 7, none⟩ = some (.int .i64 a.E.val)) 11 12 rfl (by kernel_rfl) ?_
              have hS0 : (fun u : World => u.cell? ⟨gb, 1, none⟩ = some (.slice G.da G.aside.length G.dc) ∧ u.cell? ⟨ab, 3, none⟩ = some (.int .i64 a.E.src) ∧ u.cell? ⟨ab, 4, none⟩ = some (.int .i64 a.E.seq) ∧ u.cell? ⟨ab, 5, none⟩ = some (.int .i64 a.E.ts) ∧ u.cell? ⟨ab, 6, none⟩ = some (.int .i64 a.E.kind) ∧ u.cell? ⟨ab, 7, none⟩ = some (.int .i64 a.E.val)) wq.drew := ⟨cx, (HB2.out).cell 3, (HB2.out).cell 4, (HB2.out).cell 5, (HB2.out).cell 6, (HB2.out).cell 7⟩
              refine upTo_take (i := 0) (v := ?v94_0) rfl (by kernel_rfl) (by kernel_rfl) (by kernel_rfl) (by kernel_rfl) (by rfl) (fun _ _ _ h => h) (by rfl) hS0 ?hy94_0 ?rest94_0
              case hy94_0 => (intro u hu; (try dsimp only at hu); go_simp; first | done | with_reducible rfl)
              (try simp only [Act.put, List.setIfInBounds_toArray, List.set_cons_zero, List.set_cons_succ, List.getElem_toArray, List.getElem_cons_succ, List.getElem_cons_zero])
              refine upTo_take (i := 1) (v := ?v94_1) rfl (by kernel_rfl) (by kernel_rfl) (by kernel_rfl) (by kernel_rfl) (by rfl) (fun _ _ _ h => h) (by rfl) hS0 ?hy94_1 ?rest94_1
              case hy94_1 => (intro u hu; (try dsimp only at hu); go_simp; first | done | with_reducible rfl)
              (try simp only [Act.put, List.setIfInBounds_toArray, List.set_cons_zero, List.set_cons_succ, List.getElem_toArray, List.getElem_cons_succ, List.getElem_cons_zero])
              refine upTo_take (i := 2) (v := ?v94_2) rfl (by kernel_rfl) (by kernel_rfl) (by kernel_rfl) (by kernel_rfl) (by rfl) (fun _ _ _ h => h) (by rfl) hS0 ?hy94_2 ?rest94_2
              case hy94_2 => (intro u hu; (try dsimp only at hu); go_simp; first | done | with_reducible rfl)
              (try simp only [Act.put, List.setIfInBounds_toArray, List.set_cons_zero, List.set_cons_succ, List.getElem_toArray, List.getElem_cons_succ, List.getElem_cons_zero])
              refine upTo_take (i := 3) (v := ?v94_3) rfl (by kernel_rfl) (by kernel_rfl) (by kernel_rfl) (by kernel_rfl) (by rfl) (fun _ _ _ h => h) (by rfl) hS0 ?hy94_3 ?rest94_3
              case hy94_3 => (intro u hu; (try dsimp only at hu); go_simp; first | done | with_reducible rfl)
              (try simp only [Act.put, List.setIfInBounds_toArray, List.set_cons_zero, List.set_cons_succ, List.getElem_toArray, List.getElem_cons_succ, List.getElem_cons_zero])
              refine upTo_take (i := 4) (v := ?v94_4) rfl (by kernel_rfl) (by kernel_rfl) (by kernel_rfl) (by kernel_rfl) (by rfl) (fun _ _ _ h => h) (by rfl) hS0 ?hy94_4 ?rest94_4
              case hy94_4 => (intro u hu; (try dsimp only at hu); go_simp; first | done | with_reducible rfl)
              (try simp only [Act.put, List.setIfInBounds_toArray, List.set_cons_zero, List.set_cons_succ, List.getElem_toArray, List.getElem_cons_succ, List.getElem_cons_zero])
              refine upTo_take (i := 5) (v := ?v94_5) rfl (by kernel_rfl) (by kernel_rfl) (by kernel_rfl) (by kernel_rfl) (by rfl) (fun _ _ _ h => h) (by rfl) hS0 ?hy94_5 ?rest94_5
              case hy94_5 => (intro u hu; (try dsimp only at hu); go_simp; first | done | with_reducible rfl)
              (try simp only [Act.put, List.setIfInBounds_toArray, List.set_cons_zero, List.set_cons_succ, List.getElem_toArray, List.getElem_cons_succ, List.getElem_cons_zero])
              refine upTo_take (i := 6) (v := ?v94_6) rfl (by kernel_rfl) (by kernel_rfl) (by kernel_rfl) (by kernel_rfl) (by rfl) (fun _ _ _ h => h) (by rfl) hS0 ?hy94_6 ?rest94_6
              case hy94_6 => (intro u hu; (try dsimp only at hu); go_simp; first | done | with_reducible rfl)
              (try simp only [Act.put, List.setIfInBounds_toArray, List.set_cons_zero, List.set_cons_succ, List.getElem_toArray, List.getElem_cons_succ, List.getElem_cons_zero])
              refine upTo_one (i := 7) (by kernel_rfl) rfl (fun K hK => ?_)
              go_simp
              refine hK.out _ _ (fun _ => ⟨((HJ2.out.ml.kept (below_kept ((Below.refl _ wq).alloc (Nat.le_refl _) _) (fun _ => False)) (fun _ _ e => e)).blk.cell 1), (HB2.out.alloc _).cell 3, (HB2.out.alloc _).cell 4, (HB2.out.alloc _).cell 5, (HB2.out.alloc _).cell 6, (HB2.out.alloc _).cell 7⟩) ?_
              clear hK K
              (try simp only [Act.put, List.setIfInBounds_toArray, List.set_cons_zero, List.set_cons_succ, List.getElem_toArray, List.getElem_cons_succ, List.getElem_cons_zero])
              refine upTo_one (i := 8) (by kernel_rfl) rfl (fun K hK => ?_)
              refine step_append_lies _ (by rfl) _ _ _ (by rfl) 0 37 j0 _ 5 40 Tryd.underlying32 hj0 hy0 hy1 hy2 rfl (by omega) (.slice G.da G.aside.length G.dc) G.aside.length (evs G.aside) (by rfl) (ownsRow_of_heap HRow.out (fun k hk => Below.heap_alloc _ _ _ hk))
                ⟨wq.heap.size, 0, none⟩ 1 1 a.E.vals (by rfl) (by rfl) (World.news_of_block (cs := a.E.vals.toArray) (t := 37) (fr := (0, 0)) (heap_alloc_new wq _)) (Ev.one a.E)
                (by omega) (by unfold maxLen; omega) (by omega) (by omega) (wq.heap.size + 1) (by simp) ?_
              intro gg cap w3 hown1 hgrow hat hlt1
              have hb0 : Below wq.heap.size wq (wq.alloc (.cells a.E.vals.toArray 37)).drew := ((Below.refl _ wq).alloc (Nat.le_refl _) _).drew
              obtain ⟨q0, hE⟩ := HJ2.out.ml.appAsideE (cap := cap) hb0 hown1 hgrow hat
              obtain ⟨_, _, qk, _, _, _⟩ := HJ2.out.ml.app (j := 2) hb0 rfl (by omega) hgrow hat
              have q4 := q0.frozen 1
              have HB3 : Hid (Blk w3 ab 39 [.int .i64 2, .int .i64 a.E.src, .int .i64 0, .int .i64 a.E.src, .int .i64 a.E.seq, .int .i64 a.E.ts, .int .i64 a.E.kind, .int .i64 a.E.val]) := HB2.out.kept qk HNe.out
              have HJ3 : Hid (JW w (w3.setCell ⟨gb, 1, none⟩ (.slice (some ⟨gg, 0, none⟩) (G.aside.length + 1) cap)) cb pb gb c P { G with aside := G.aside ++ [a.E], da := some ⟨gg, 0, none⟩, dc := cap }) := HJ2.out.evo hE
              clear hE qk
              refine hK.out _ _ (fun _ => ⟨q0.cell 1, (HB3.out).cell 3, (HB3.out).cell 4, (HB3.out).cell 5, (HB3.out).cell 6, (HB3.out).cell 7⟩) ?_
              clear hK K hS0
              (try simp only [Act.put, List.setIfInBounds_toArray, List.set_cons_zero, List.set_cons_succ, List.getElem_toArray, List.getElem_cons_succ, List.getElem_cons_zero])
              refine upTo_one (i := 9) (by kernel_rfl) rfl (fun K hK => ?_)
              go_simp
              refine hK.out _ _ (fun _ => ⟨q0.cell 1, (HB3.out).cell 3, (HB3.out).cell 4, (HB3.out).cell 5, (HB3.out).cell 6, (HB3.out).cell 7⟩) ?_
              clear hK K
              (try simp only [Act.put, List.setIfInBounds_toArray, List.set_cons_zero, List.set_cons_succ, List.getElem_toArray, List.getElem_cons_succ, List.getElem_cons_zero])
              refine upTo_one (i := 10) (by kernel_rfl) rfl (fun K hK => ?_)
              go_simp
              refine hK.out _ _ (fun _ => ⟨q0.cell 1, (HB3.out).cell 3, (HB3.out).cell 4, (HB3.out).cell 5, (HB3.out).cell 6, (HB3.out).cell 7⟩) ?_
              clear hK K
              (try simp only [Act.put, List.setIfInBounds_toArray, List.set_cons_zero, List.set_cons_succ, List.getElem_toArray, List.getElem_cons_succ, List.getElem_cons_zero])
              have q5 := q0.cell 1
              simp only [List.getElem?_cons_succ, List.getElem?_cons_zero] at q5
              refine upTo_one (i := 11) (by kernel_rfl) rfl (fun K hK => ?_)
              go_simp
              refine hK.out _ _ (fun h => absurd rfl h) ?_
              clear hK K
              (try simp only [Act.put, List.setIfInBounds_toArray, List.set_cons_zero, List.set_cons_succ, List.getElem_toArray, List.getElem_cons_succ, List.getElem_cons_zero])
              refine upTo_done (by kernel_rfl) ?_
              clear q0 q4 q5 cx hown1 hgrow hat hlt1 hb0 HRow HB3 HJ2 HB2
              have HJd : Hid (jd c.slack ((P.A s).take (j + 1)) = jstep c.slack (jd c.slack ((P.A s).take j)) a) := HJs.out
              have HMk : Hid ((jd c.slack ((P.A s).take (j + 1))).1 = mk) := by
                show _ = _
                rw [HJd.out]; unfold jstep; rw [← HMk0.out]
                rw [if_pos HPu.out]
                simp only
                rw [if_neg hup]
              have HAl : Hid (({ G with aside := G.aside ++ [a.E], da := some ⟨gg, 0, none⟩, dc := cap } : LG).all = jAll c.slack P.A s ++ (jd c.slack ((P.A s).take (j + 1))).2.1 ∧ ({ G with aside := G.aside ++ [a.E], da := some ⟨gg, 0, none⟩, dc := cap } : LG).aside = jAs c.slack P.A s ++ (jd c.slack ((P.A s).take (j + 1))).2.2) := by
                rw [HJd.out]; unfold jstep; rw [← HMk0.out]
                rw [if_pos HPu.out]
                simp only
                rw [if_pos hlate, if_pos hlate]
                exact ⟨HG.out.1, by rw [← List.append_assoc, ← HG.out.2]⟩
              clear HJs HG
              go_wp2
              go_roundw
              case rel => first | exact ⟨j + 1, _, by omega, by rw [HMk.out], by go_num, HJ3.out, HAl.out⟩ | ((repeat apply Exists.intro); exact ⟨⟨j + 1, _, by omega, by rw [HMk.out], by go_num, HJ3.out, HAl.out⟩, rfl⟩)
              case measure => simp [intOf]; omega
            · have hlated : decide (a.E.ts < mk) = false := by simpa using hlate
              go_upto_region 16 with fail
              obtain ⟨wq, HWq⟩ := hex w2
              rw [← HWq.out] at HB2 HJ2
              rw [← HWq.out]
              clear HWq
              have cx : wq.cell? ⟨gb, 0, none⟩ = some (.slice G.aa G.all.length G.ac) := HJ2.out.ml.blk.cell 0
              have HRow : Hid (Row wq 37 5 G.aa G.all.length G.ac (evs G.all)) := HJ2.out.ml.ra
              have HNe : Hid (¬ some ab ∈ G.fp gb) := HNg.out
              refine upTo_region (fun u : World => u.cell? ⟨gb, 0, none⟩ = some (.slice G.aa G.all.length G.ac) ∧ u.cell? ⟨ab, 3, none⟩ = some (.int .i64 a.E.src) ∧ u.cell? ⟨ab, 4, none⟩ = some (.int .i64 a.E.seq) ∧ u.cell? ⟨ab, 5, none⟩ = some (.int .i64 a.E.ts) ∧ u.cell? ⟨ab, 6, none⟩ = some (.int .i64 a.E.kind) ∧ u.cell? ⟨ab, 7, none⟩ = some (.int .i64 a.E.val)) 11 12 rfl (by kernel_rfl) ?_
              have hS0 : (fun u : World => u.cell? ⟨gb, 0, none⟩ = some (.slice G.aa G.all.length G.ac) ∧ u.cell? ⟨ab, 3, none⟩ = some (.int .i64 a.E.src) ∧ u.cell? ⟨ab, 4, none⟩ = some (.int .i64 a.E.seq) ∧ u.cell? ⟨ab, 5, none⟩ = some (.int .i64 a.E.ts) ∧ u.cell? ⟨ab, 6, none⟩ = some (.int .i64 a.E.kind) ∧ u.cell? ⟨ab, 7, none⟩ = some (.int .i64 a.E.val)) wq.drew := ⟨cx, (HB2.out).cell 3, (HB2.out).cell 4, (HB2.out).cell 5, (HB2.out).cell 6, (HB2.out).cell 7⟩
              refine upTo_take (i := 0) (v := ?v95_0) rfl (by kernel_rfl) (by kernel_rfl) (by kernel_rfl) (by kernel_rfl) (by rfl) (fun _ _ _ h => h) (by rfl) hS0 ?hy95_0 ?rest95_0
              case hy95_0 => (intro u hu; (try dsimp only at hu); go_simp; first | done | with_reducible rfl)
              (try simp only [Act.put, List.setIfInBounds_toArray, List.set_cons_zero, List.set_cons_succ, List.getElem_toArray, List.getElem_cons_succ, List.getElem_cons_zero])
              refine upTo_take (i := 1) (v := ?v95_1) rfl (by kernel_rfl) (by kernel_rfl) (by kernel_rfl) (by kernel_rfl) (by rfl) (fun _ _ _ h => h) (by rfl) hS0 ?hy95_1 ?rest95_1
              case hy95_1 => (intro u hu; (try dsimp only at hu); go_simp; first | done | with_reducible rfl)
              (try simp only [Act.put, List.setIfInBounds_toArray, List.set_cons_zero, List.set_cons_succ, List.getElem_toArray, List.getElem_cons_succ, List.getElem_cons_zero])
              refine upTo_take (i := 2) (v := ?v95_2) rfl (by kernel_rfl) (by kernel_rfl) (by kernel_rfl) (by kernel_rfl) (by rfl) (fun _ _ _ h => h) (by rfl) hS0 ?hy95_2 ?rest95_2
              case hy95_2 => (intro u hu; (try dsimp only at hu); go_simp; first | done | with_reducible rfl)
              (try simp only [Act.put, List.setIfInBounds_toArray, List.set_cons_zero, List.set_cons_succ, List.getElem_toArray, List.getElem_cons_succ, List.getElem_cons_zero])
              refine upTo_take (i := 3) (v := ?v95_3) rfl (by kernel_rfl) (by kernel_rfl) (by kernel_rfl) (by kernel_rfl) (by rfl) (fun _ _ _ h => h) (by rfl) hS0 ?hy95_3 ?rest95_3
              case hy95_3 => (intro u hu; (try dsimp only at hu); go_simp; first | done | with_reducible rfl)
              (try simp only [Act.put, List.setIfInBounds_toArray, List.set_cons_zero, List.set_cons_succ, List.getElem_toArray, List.getElem_cons_succ, List.getElem_cons_zero])
              refine upTo_take (i := 4) (v := ?v95_4) rfl (by kernel_rfl) (by kernel_rfl) (by kernel_rfl) (by kernel_rfl) (by rfl) (fun _ _ _ h => h) (by rfl) hS0 ?hy95_4 ?rest95_4
              case hy95_4 => (intro u hu; (try dsimp only at hu); go_simp; first | done | with_reducible rfl)
              (try simp only [Act.put, List.setIfInBounds_toArray, List.set_cons_zero, List.set_cons_succ, List.getElem_toArray, List.getElem_cons_succ, List.getElem_cons_zero])
              refine upTo_take (i := 5) (v := ?v95_5) rfl (by kernel_rfl) (by kernel_rfl) (by kernel_rfl) (by kernel_rfl) (by rfl) (fun _ _ _ h => h) (by rfl) hS0 ?hy95_5 ?rest95_5
              case hy95_5 => (intro u hu; (try dsimp only at hu); go_simp; first | done | with_reducible rfl)
              (try simp only [Act.put, List.setIfInBounds_toArray, List.set_cons_zero, List.set_cons_succ, List.getElem_toArray, List.getElem_cons_succ, List.getElem_cons_zero])
              refine upTo_take (i := 6) (v := ?v95_6) rfl (by kernel_rfl) (by kernel_rfl) (by kernel_rfl) (by kernel_rfl) (by rfl) (fun _ _ _ h => h) (by rfl) hS0 ?hy95_6 ?rest95_6
              case hy95_6 => (intro u hu; (try dsimp only at hu); go_simp; first | done | with_reducible rfl)
              (try simp only [Act.put, List.setIfInBounds_toArray, List.set_cons_zero, List.set_cons_succ, List.getElem_toArray, List.getElem_cons_succ, List.getElem_cons_zero])
              refine upTo_one (i := 7) (by kernel_rfl) rfl (fun K hK => ?_)
              go_simp
              refine hK.out _ _ (fun _ => ⟨((HJ2.out.ml.kept (below_kept ((Below.refl _ wq).alloc (Nat.le_refl _) _) (fun _ => False)) (fun _ _ e => e)).blk.cell 0), (HB2.out.alloc _).cell 3, (HB2.out.alloc _).cell 4, (HB2.out.alloc _).cell 5, (HB2.out.alloc _).cell 6, (HB2.out.alloc _).cell 7⟩) ?_
              clear hK K
              (try simp only [Act.put, List.setIfInBounds_toArray, List.set_cons_zero, List.set_cons_succ, List.getElem_toArray, List.getElem_cons_succ, List.getElem_cons_zero])
              refine upTo_one (i := 8) (by kernel_rfl) rfl (fun K hK => ?_)
              refine step_append_lies _ (by rfl) _ _ _ (by rfl) 0 37 j0 _ 5 40 Tryd.underlying32 hj0 hy0 hy1 hy2 rfl (by omega) (.slice G.aa G.all.length G.ac) G.all.length (evs G.all) (by rfl) (ownsRow_of_heap HRow.out (fun k hk => Below.heap_alloc _ _ _ hk))
                ⟨wq.heap.size, 0, none⟩ 1 1 a.E.vals (by rfl) (by rfl) (World.news_of_block (cs := a.E.vals.toArray) (t := 37) (fr := (0, 0)) (heap_alloc_new wq _)) (Ev.one a.E)
                (by omega) (by unfold maxLen; omega) (by omega) (by omega) (wq.heap.size + 1) (by simp) ?_
              intro gg cap w3 hown1 hgrow hat hlt1
              have hb0 : Below wq.heap.size wq (wq.alloc (.cells a.E.vals.toArray 37)).drew := ((Below.refl _ wq).alloc (Nat.le_refl _) _).drew
              obtain ⟨q0, hE⟩ := HJ2.out.ml.appAllE (cap := cap) hb0 hown1 hgrow hat
              obtain ⟨_, _, qk, _, _, _⟩ := HJ2.out.ml.app (j := 1) hb0 rfl (by omega) hgrow hat
              have q4 := q0.frozen 0
              have HB3 : Hid (Blk w3 ab 39 [.int .i64 2, .int .i64 a.E.src, .int .i64 0, .int .i64 a.E.src, .int .i64 a.E.seq, .int .i64 a.E.ts, .int .i64 a.E.kind, .int .i64 a.E.val]) := HB2.out.kept qk HNe.out
              have HJ3 : Hid (JW w (w3.setCell ⟨gb, 0, none⟩ (.slice (some ⟨gg, 0, none⟩) (G.all.length + 1) cap)) cb pb gb c P { G with all := G.all ++ [a.E], aa := some ⟨gg, 0, none⟩, ac := cap }) := HJ2.out.evo hE
              clear hE qk
              refine hK.out _ _ (fun _ => ⟨q0.cell 0, (HB3.out).cell 3, (HB3.out).cell 4, (HB3.out).cell 5, (HB3.out).cell 6, (HB3.out).cell 7⟩) ?_
              clear hK K hS0
              (try simp only [Act.put, List.setIfInBounds_toArray, List.set_cons_zero, List.set_cons_succ, List.getElem_toArray, List.getElem_cons_succ, List.getElem_cons_zero])
              refine upTo_one (i := 9) (by kernel_rfl) rfl (fun K hK => ?_)
              go_simp
              refine hK.out _ _ (fun _ => ⟨q0.cell 0, (HB3.out).cell 3, (HB3.out).cell 4, (HB3.out).cell 5, (HB3.out).cell 6, (HB3.out).cell 7⟩) ?_
              clear hK K
              (try simp only [Act.put, List.setIfInBounds_toArray, List.set_cons_zero, List.set_cons_succ, List.getElem_toArray, List.getElem_cons_succ, List.getElem_cons_zero])
              refine upTo_one (i := 10) (by kernel_rfl) rfl (fun K hK => ?_)
              go_simp
              refine hK.out _ _ (fun _ => ⟨q0.cell 0, (HB3.out).cell 3, (HB3.out).cell 4, (HB3.out).cell 5, (HB3.out).cell 6, (HB3.out).cell 7⟩) ?_
              clear hK K
              (try simp only [Act.put, List.setIfInBounds_toArray, List.set_cons_zero, List.set_cons_succ, List.getElem_toArray, List.getElem_cons_succ, List.getElem_cons_zero])
              have q5 := q0.cell 0
              simp only [List.getElem?_cons_succ, List.getElem?_cons_zero] at q5
              refine upTo_one (i := 11) (by kernel_rfl) rfl (fun K hK => ?_)
              go_simp
              refine hK.out _ _ (fun h => absurd rfl h) ?_
              clear hK K
              (try simp only [Act.put, List.setIfInBounds_toArray, List.set_cons_zero, List.set_cons_succ, List.getElem_toArray, List.getElem_cons_succ, List.getElem_cons_zero])
              refine upTo_done (by kernel_rfl) ?_
              clear q0 q4 q5 cx hown1 hgrow hat hlt1 hb0 HRow HB3 HJ2 HB2
              by_cases hup : mk < a.E.ts - c.slack
              · skip
                have HJd : Hid (jd c.slack ((P.A s).take (j + 1)) = jstep c.slack (jd c.slack ((P.A s).take j)) a) := HJs.out
                have HMk : Hid ((jd c.slack ((P.A s).take (j + 1))).1 = a.E.ts - c.slack) := by
                  show _ = _
                  rw [HJd.out]; unfold jstep; rw [← HMk0.out]
                  rw [if_pos HPu.out]
                  simp only
                  rw [if_pos hup]
                have HAl : Hid (({ G with all := G.all ++ [a.E], aa := some ⟨gg, 0, none⟩, ac := cap } : LG).all = jAll c.slack P.A s ++ (jd c.slack ((P.A s).take (j + 1))).2.1 ∧ ({ G with all := G.all ++ [a.E], aa := some ⟨gg, 0, none⟩, ac := cap } : LG).aside = jAs c.slack P.A s ++ (jd c.slack ((P.A s).take (j + 1))).2.2) := by
                  rw [HJd.out]; unfold jstep; rw [← HMk0.out]
                  rw [if_pos HPu.out]
                  simp only
                  rw [if_neg hlate, if_neg hlate]
                  exact ⟨by rw [← List.append_assoc, ← HG.out.1], HG.out.2⟩
                clear HJs HG
                go_wp2
                go_roundw
                case rel => first | exact ⟨j + 1, _, by omega, by rw [HMk.out], by go_num, HJ3.out, HAl.out⟩ | ((repeat apply Exists.intro); exact ⟨⟨j + 1, _, by omega, by rw [HMk.out], by go_num, HJ3.out, HAl.out⟩, rfl⟩)
                case measure => simp [intOf]; omega
              · have hupd : decide (mk < a.E.ts - c.slack) = false := by simpa using hup
                have HJd : Hid (jd c.slack ((P.A s).take (j + 1)) = jstep c.slack (jd c.slack ((P.A s).take j)) a) := HJs.out
                have HMk : Hid ((jd c.slack ((P.A s).take (j + 1))).1 = mk) := by
                  show _ = _
                  rw [HJd.out]; unfold jstep; rw [← HMk0.out]
                  rw [if_pos HPu.out]
                  simp only
                  rw [if_neg hup]
                have HAl : Hid (({ G with all := G.all ++ [a.E], aa := some ⟨gg, 0, none⟩, ac := cap } : LG).all = jAll c.slack P.A s ++ (jd c.slack ((P.A s).take (j + 1))).2.1 ∧ ({ G with all := G.all ++ [a.E], aa := some ⟨gg, 0, none⟩, ac := cap } : LG).aside = jAs c.slack P.A s ++ (jd c.slack ((P.A s).take (j + 1))).2.2) := by
                  rw [HJd.out]; unfold jstep; rw [← HMk0.out]
                  rw [if_pos HPu.out]
                  simp only
                  rw [if_neg hlate, if_neg hlate]
                  exact ⟨by rw [← List.append_assoc, ← HG.out.1], HG.out.2⟩
                clear HJs HG
                go_wp2
                go_roundw
                case rel => first | exact ⟨j + 1, _, by omega, by rw [HMk.out], by go_num, HJ3.out, HAl.out⟩ | ((repeat apply Exists.intro); exact ⟨⟨j + 1, _, by omega, by rw [HMk.out], by go_num, HJ3.out, HAl.out⟩, rfl⟩)
                case measure => simp [intOf]; omega
          | false =>
            have hd : d = 4 := by rw [HD.out, hpu]; rfl
            have HPu : Hid (a.push = false) := hpu
            subst hd
            clear hpu HD
            have HJ3 : Hid (JW w w2 cb pb gb c P G) := HJ2.out
            by_cases hup : mk < a.E.ts
            · skip
              have HJd : Hid (jd c.slack ((P.A s).take (j + 1)) = jstep c.slack (jd c.slack ((P.A s).take j)) a) := HJs.out
              have HMk : Hid ((jd c.slack ((P.A s).take (j + 1))).1 = a.E.ts) := by
                show _ = _
                rw [HJd.out]; unfold jstep; rw [← HMk0.out]
                rw [if_neg (by rw [HPu.out]; simp)]
                simp only
                rw [if_pos hup]
              have HAl : Hid ((G : LG).all = jAll c.slack P.A s ++ (jd c.slack ((P.A s).take (j + 1))).2.1 ∧ (G : LG).aside = jAs c.slack P.A s ++ (jd c.slack ((P.A s).take (j + 1))).2.2) := by
                rw [HJd.out]; unfold jstep; rw [← HMk0.out]
                rw [if_neg (by rw [HPu.out]; simp)]
                simp only
                skip
                exact HG.out
              clear HJs HG
              go_wp2
              go_roundw
              case rel => first | exact ⟨j + 1, _, by omega, by rw [HMk.out], by go_num, HJ3.out, HAl.out⟩ | ((repeat apply Exists.intro); exact ⟨⟨j + 1, _, by omega, by rw [HMk.out], by go_num, HJ3.out, HAl.out⟩, rfl⟩)
              case measure => simp [intOf]; omega
            · have hupd : decide (mk < a.E.ts) = false := by simpa using hup
              have HJd : Hid (jd c.slack ((P.A s).take (j + 1)) = jstep c.slack (jd c.slack ((P.A s).take j)) a) := HJs.out
              have HMk : Hid ((jd c.slack ((P.A s).take (j + 1))).1 = mk) := by
                show _ = _
                rw [HJd.out]; unfold jstep; rw [← HMk0.out]
                rw [if_neg (by rw [HPu.out]; simp)]
                simp only
                rw [if_neg hup]
              have HAl : Hid ((G : LG).all = jAll c.slack P.A s ++ (jd c.slack ((P.A s).take (j + 1))).2.1 ∧ (G : LG).aside = jAs c.slack P.A s ++ (jd c.slack ((P.A s).take (j + 1))).2.2) := by
                rw [HJd.out]; unfold jstep; rw [← HMk0.out]
                rw [if_neg (by rw [HPu.out]; simp)]
                simp only
                skip
                exact HG.out
              clear HJs HG
              go_wp2
              go_roundw
              case rel => first | exact ⟨j + 1, _, by omega, by rw [HMk.out], by go_num, HJ3.out, HAl.out⟩ | ((repeat apply Exists.intro); exact ⟨⟨j + 1, _, by omega, by rw [HMk.out], by go_num, HJ3.out, HAl.out⟩, rfl⟩)
              case measure => simp [intOf]; omega
        · have hjl' : ¬ (j : Int) < (nl : Int) := by omega
          have HGn : Hid (G.all = jAll c.slack P.A (s + 1) ∧ G.aside = jAs c.slack P.A (s + 1)) := by
            have hje : j = (P.A s).length := by rw [HAl.out]; omega
            have h := HG.out
            rw [hje, List.take_length] at h
            rw [(jAll_succ c.slack P.A s).1, (jAll_succ c.slack P.A s).2]
            exact h
          clear HG
          go_wp2
          go_roundw
          case rel => first | exact ⟨s + 1, G, by omega, by go_num, HJ.out, HGn.out.1, HGn.out.2⟩ | ((repeat apply Exists.intro); exact ⟨⟨s + 1, G, by omega, by go_num, HJ.out, HGn.out.1, HGn.out.2⟩, rfl⟩)
          case measure => simp [intOf]; omega
    · have hlt' : ¬ (s : Int) < (n : Int) := by omega
      have HGe : Hid (G.all = kpAll c.slack n (fun s => (planL c.room S n)[s]?.getD []) (fun s => ((fun s => (planL c.room S n)[s]?.getD []) s).length) ∧ G.aside = asAll c.slack n (fun s => (planL c.room S n)[s]?.getD []) (fun s => ((fun s => (planL c.room S n)[s]?.getD []) s).length)) := by
        have h := HG0.out
        rw [show s = n by omega, (jAll_kp c.slack P.A n).1, (jAll_kp c.slack P.A n).2, HPA.out] at h
        exact h
      go_wp2
      go_ret
      exact ⟨gb, rfl, G, HJ.out.ml, HJ.out.fg, HJ.out.bel, HGe.out.1, HGe.out.2⟩
end Go.Proofs.YtghcololkgeoeaaDoor
