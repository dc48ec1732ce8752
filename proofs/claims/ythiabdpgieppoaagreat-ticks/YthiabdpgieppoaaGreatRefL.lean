import Derived.Test.YthiabdpgieppoaaGreatRefK
namespace Go.Proofs.YthiabdpgieppoaaGreat
open Go.RowKit
open Classical
set_option linter.unusedVariables false
set_option linter.unusedSimpArgs false
attribute [local go_sem ↓] Go.wp_at_zero Go.wp_at_succ

def Cfg.agg (c : Cfg) : Value := .agg #[.int .i64 c.sources, .int .i64 c.slack, .int .i64 c.policy, .int .i64 c.room, .int .i64 c.idle, .string c.pat]
/-- may a configuration be? -/
def Cfg.fits (c : Cfg) : Prop := 1 ≤ c.sources ∧ c.sources ≤ 6 ∧ 0 ≤ c.slack ∧ c.slack ≤ 1000 ∧ 0 ≤ c.policy ∧ c.policy ≤ 2 ∧ 1 ≤ c.room ∧ c.room ≤ 32 ∧ 0 ≤ c.idle ∧ c.idle ≤ 1000
set_option maxRecDepth 100000 in
set_option maxHeartbeats 4000000 in
theorem rnew_config (c : Cfg) (w : World) (hf : ¬ c.fits) :
    Calls Tryz.prog 12 #[c.agg] w fun e w' => e = .returned (.tuple #[.pointer none, .int .i64 1]) ∧ Below w.heap.size w w' := by
  have hfin : ∀ o, Below w.heap.size w (w.alloc o) := fun o => (Below.refl _ _).alloc (Nat.le_refl _) o
  have HF : Hid (¬ c.fits) := hf
  clear hf
  unfold Cfg.agg
  by_cases k0 : 1 ≤ c.sources
  rotate_left
  · have hd : decide (1 ≤ c.sources) = false := by simpa using k0
    go_enter Tryz.func12, Tryz.ntmps12
    go_wp2
    go_ret2
    exact ⟨rfl, hfin _⟩
  by_cases k1 : c.sources ≤ 6
  rotate_left
  · have hd : decide (c.sources ≤ 6) = false := by simpa using k1
    go_enter Tryz.func12, Tryz.ntmps12
    go_wp2
    go_ret2
    exact ⟨rfl, hfin _⟩
  by_cases k2 : 0 ≤ c.slack
  rotate_left
  · have hd : decide (0 ≤ c.slack) = false := by simpa using k2
    go_enter Tryz.func12, Tryz.ntmps12
    go_wp2
    go_ret2
    exact ⟨rfl, hfin _⟩
  by_cases k3 : c.slack ≤ 1000
  rotate_left
  · have hd : decide (c.slack ≤ 1000) = false := by simpa using k3
    go_enter Tryz.func12, Tryz.ntmps12
    go_wp2
    go_ret2
    exact ⟨rfl, hfin _⟩
  by_cases k4 : 0 ≤ c.policy
  rotate_left
  · have hd : decide (0 ≤ c.policy) = false := by simpa using k4
    go_enter Tryz.func12, Tryz.ntmps12
    go_wp2
    go_ret2
    exact ⟨rfl, hfin _⟩
  by_cases k5 : c.policy ≤ 2
  rotate_left
  · have hd : decide (c.policy ≤ 2) = false := by simpa using k5
    go_enter Tryz.func12, Tryz.ntmps12
    go_wp2
    go_ret2
    exact ⟨rfl, hfin _⟩
  by_cases k6 : 1 ≤ c.room
  rotate_left
  · have hd : decide (1 ≤ c.room) = false := by simpa using k6
    go_enter Tryz.func12, Tryz.ntmps12
    go_wp2
    go_ret2
    exact ⟨rfl, hfin _⟩
  by_cases k7 : c.room ≤ 32
  rotate_left
  · have hd : decide (c.room ≤ 32) = false := by simpa using k7
    go_enter Tryz.func12, Tryz.ntmps12
    go_wp2
    go_ret2
    exact ⟨rfl, hfin _⟩
  by_cases k8 : 0 ≤ c.idle
  rotate_left
  · have hd : decide (0 ≤ c.idle) = false := by simpa using k8
    go_enter Tryz.func12, Tryz.ntmps12
    go_wp2
    go_ret2
    exact ⟨rfl, hfin _⟩
  by_cases k9 : c.idle ≤ 1000
  rotate_left
  · have hd : decide (c.idle ≤ 1000) = false := by simpa using k9
    go_enter Tryz.func12, Tryz.ntmps12
    go_wp2
    go_ret2
    exact ⟨rfl, hfin _⟩
  exact absurd ⟨k0, k1, k2, k3, k4, k5, k6, k7, k8, k9⟩ HF.out

theorem check_zero {l : List UInt8} {x y : Int} (h : CheckIs wholeP goesP l x y) : x = 0 ↔ (l.length ≤ 60 ∧ wholeP l) := by
  rcases h with ⟨a, e, _⟩ | ⟨a, b, e, _⟩ | ⟨a, b, e, _⟩
  · constructor
    · intro h; omega
    · rintro ⟨h, _⟩; omega
  · exact ⟨fun _ => ⟨a, b⟩, fun _ => e⟩
  · constructor
    · intro h; omega
    · rintro ⟨_, h⟩; exact absurd h b
set_option maxRecDepth 100000 in
set_option maxHeartbeats 4000000 in
theorem rnew_pattern (c : Cfg) (w : World) (hs : c.pat.size ≤ maxLen) (hf : c.fits) (hp : ¬ (c.pat.data.toList.length ≤ 60 ∧ wholeP c.pat.data.toList)) :
    Calls Tryz.prog 12 #[c.agg] w fun e w' => e = .returned (.tuple #[.pointer none, .int .i64 2]) ∧ Below w.heap.size w w' := by
  have HP : Hid (¬ (c.pat.data.toList.length ≤ 60 ∧ wholeP c.pat.data.toList)) := hp
  obtain ⟨k0, k1, k2, k3, k4, k5, k6, k7, k8, k9⟩ := hf
  clear hp
  unfold Cfg.agg
  go_enter Tryz.func12, Tryz.ntmps12
  go_wp2_with (go_at_call 34; refine (rcheck_any _ _ hs).mono ?_; rintro e w1 ⟨x, y, rfl, hc, hb1⟩; have hx : (x != 0) = true := by (have := check_zero hc; simp; intro e; exact HP.out (this.1 e)))
  go_ret2
  exact ⟨rfl, ((Below.refl _ _).alloc (Nat.le_refl _) _).trans (hb1.mono (by simp))⟩

theorem pd3 {b sg : Nat} {p : Option Nat} {L : List (Option Nat)} (h1 : p ≠ some b) (h2 : b ≠ sg) (h3 : p ≠ some sg) (hL : ∀ x ∈ L, x = none) : PD ([some b, p, some sg] ++ L) := by
  have key : ∀ i k : Nat, ([some b, p, some sg] ++ L)[i]? = some (some k) → (i = 0 ∧ k = b) ∨ (i = 1 ∧ p = some k) ∨ (i = 2 ∧ k = sg) := by
    intro i k h
    match i, h with
    | 0, h => simp at h; exact Or.inl ⟨rfl, h.symm⟩
    | 1, h => simp at h; exact Or.inr (Or.inl ⟨rfl, h⟩)
    | 2, h => simp at h; exact Or.inr (Or.inr ⟨rfl, h.symm⟩)
    | i + 3, h =>
      have : (L)[i]? = some (some k) := by simpa using h
      have := hL _ (List.mem_of_getElem? this)
      simp at this
  intro i j k hi hj
  rcases key i k hi with ⟨a, e⟩ | ⟨a, e⟩ | ⟨a, e⟩ <;> rcases key j k hj with ⟨a', e'⟩ | ⟨a', e'⟩ | ⟨a', e'⟩
  · omega
  · exact absurd (e ▸ e') h1
  · omega
  · exact absurd (e' ▸ e) h1
  · omega
  · exact absurd (e' ▸ e) h3
  · omega
  · exact absurd (e ▸ e') h3
  · omega
abbrev S9 (u w w2 : World) (n : Nat) (cl cp cr ci : Int) (pat : ByteArray) (a : Option Addr) (m cc : Nat) (o : Bool) (win : Int) : Prop := u.cell? ⟨w.heap.size, 0, none⟩ = some (.int .i64 n) ∧ u.cell? ⟨w.heap.size, 1, none⟩ = some (.int .i64 cl) ∧ u.cell? ⟨w.heap.size, 2, none⟩ = some (.int .i64 cp) ∧ u.cell? ⟨w.heap.size, 3, none⟩ = some (.int .i64 cr) ∧ u.cell? ⟨w.heap.size, 4, none⟩ = some (.int .i64 ci) ∧ u.cell? ⟨w.heap.size, 5, none⟩ = some (.string pat) ∧ u.cell? ⟨w2.heap.size, 0, none⟩ = some (.slice a m cc) ∧ u.cell? ⟨w2.heap.size, 1, none⟩ = some (.bool o) ∧ u.cell? ⟨w2.heap.size, 2, none⟩ = some (.int .i64 win)
def zSrc : RSrc := ⟨false, 0, [], none, 0, [], none, 0, ByteArray.empty⟩
/-- a new engine -/
def newRef (c : Cfg) (n : Nat) (pa : Option Addr) (pc sg : Nat) : Ref :=
  { c := c, steps := patSteps c.pat.data.toList, pa := pa, pc := pc, one := patOne c.pat.data.toList, win := patWin c.pat.data.toList, srcs := List.replicate n zSrc, sg := sg, sc := n, all := [], aa := none, ac := 0, aside := [], da := none, dc := 0, merged := -2199023255552 }
theorem Tryz.infoSrc : (Tryz.prog.info? 96).map (fun i => (i.zero, i.size, i.bytes)) = some (some (.agg #[.bool false, .int .i64 0, .slice none 0 0, .slice none 0 0, .string ByteArray.empty]), 5, 80) := by kernel_rfl
theorem made_srcs (n : Nat) (h1 : 1 ≤ n) (h6 : n ≤ 6) : (madeCells (Value.agg #[.bool false, .int .i64 0, .slice none 0 0, .slice none 0 0, .string ByteArray.empty]).cells (n * 5)).toList = (List.replicate n zSrc).flatMap RSrc.vals := by
  have : n = 1 ∨ n = 2 ∨ n = 3 ∨ n = 4 ∨ n = 5 ∨ n = 6 := by omega
  rcases this with rfl | rfl | rfl | rfl | rfl | rfl
  · show _ = _; kernel_rfl
  · show _ = _; kernel_rfl
  · show _ = _; kernel_rfl
  · show _ = _; kernel_rfl
  · show _ = _; kernel_rfl
  · show _ = _; kernel_rfl

set_option maxRecDepth 100000 in
set_option maxHeartbeats 4000000 in
theorem rnew_ok (n : Nat) (c : Cfg) (w : World) (hn : c.sources = n) (hf : c.fits) (hl : c.pat.data.toList.length ≤ 60) (hp : wholeP c.pat.data.toList) :
    Calls Tryz.prog 12 #[c.agg] w fun e w' => ∃ b pa pc sg, e = .returned (.tuple #[.pointer (some ⟨b, 0, none⟩), .int .i64 0]) ∧ MemR w' b (newRef c n pa pc sg) ∧ (∀ k, some k ∈ (newRef c n pa pc sg).fp b → w.heap.size ≤ k) ∧ Below w.heap.size w w' := by
  obtain ⟨cs, cl, cp, cr, ci, pat⟩ := c
  simp only at hn hl hp
  subst hn
  have HP : Hid (wholeP pat.data.toList) := hp
  have hsz : pat.size ≤ 60 := by simpa using hl
  have HL : Hid (pat.data.toList.length ≤ 60 ∧ wholeP pat.data.toList) := ⟨hl, hp⟩
  have HD : Hid (decide (wholeP pat.data.toList) = true) := by show _ = _; simpa using hp
  obtain ⟨i0, hi0, hz0, hz1, hz2⟩ := info_parts Tryz.infoSrc
  obtain ⟨k0, k1, k2, k3, k4, k5, k6, k7, k8, k9⟩ := hf
  simp only at k0 k1 k2 k3 k4 k5 k6 k7 k8 k9
  clear hp hl
  unfold Cfg.agg
  have HB0 : Hid (Blk (w.alloc (.cells (Cfg.vals ⟨n, cl, cp, cr, ci, pat⟩).toArray 23)) w.heap.size 23 (Cfg.vals ⟨n, cl, cp, cr, ci, pat⟩)) := blk_alloc _ _ _
  have q5 : ∀ u : World, Below (w.alloc (.cells (Cfg.vals ⟨n, cl, cp, cr, ci, pat⟩).toArray 23)).heap.size (w.alloc (.cells (Cfg.vals ⟨n, cl, cp, cr, ci, pat⟩).toArray 23)) u → u.cell? ⟨w.heap.size, 5, none⟩ = some (.string pat) := fun u hu => (HB0.out.below hu (by simp)).cell 5
  have HQ5 := q5
  clear q5
  go_enter Tryz.func12, Tryz.ntmps12
  go_upto_region 9 with (first
    | (go_at_call 34; refine (rcheck_any pat _ (by unfold maxLen; omega)).mono ?_; rintro e w1 ⟨x, y, rfl, hc, hb1⟩; obtain rfl : x = 0 := (check_zero hc).2 HL.out; have c5 := HQ5 w1 hb1; have HB1 : Hid (Below (w.alloc (.cells (Cfg.vals ⟨n, cl, cp, cr, ci, pat⟩).toArray 23)).heap.size (w.alloc (.cells (Cfg.vals ⟨n, cl, cp, cr, ci, pat⟩).toArray 23)) w1) := hb1; clear hc hb1)
    | (go_at_call 35; refine (whole_any pat _ (by omega)).mono ?_; rintro e w2 ⟨a, m, cc, o, win, rfl, hb2, hwh⟩; rw [HD.out]; have HW : Hid (w2.ownsRow w1.heap.size 122 2 (.slice a m cc) m (flat (patSteps pat.data.toList)) ∧ m = (patSteps pat.data.toList).length ∧ o = patOne pat.data.toList ∧ win = patWin pat.data.toList) := hwh HP.out; have HB2 : Hid (Below w1.heap.size w1 w2) := hb2; clear hwh hb2))
  have HZ2 : Hid (Blk w2 w.heap.size 23 (Cfg.vals ⟨n, cl, cp, cr, ci, pat⟩)) := (HB0.out.below HB1.out (by simp)).below HB2.out (by have := HB1.out.size; simp at this; omega)
  have hs2 : w.heap.size + 1 ≤ w1.heap.size := by have := HB1.out.size; simpa using this
  have hs3 : w1.heap.size ≤ w2.heap.size := HB2.out.size
  have HBw : Hid (Below w.heap.size w w2) := (((Below.refl _ w).alloc (Nat.le_refl _) _).trans (HB1.out.mono (by simp))).trans (HB2.out.mono (by omega))
  obtain ⟨w3, HW3⟩ := hex (w2.alloc (.cells #[.slice a m cc, .bool o, .int .i64 win] 88))
  have HZ3 : Hid (Blk w3 w.heap.size 23 (Cfg.vals ⟨n, cl, cp, cr, ci, pat⟩)) := by show Blk _ _ _ _; rw [HW3.out]; exact HZ2.out.alloc _
  have HP3 : Hid (Blk w3 w2.heap.size 88 [.slice a m cc, .bool o, .int .i64 win]) := by show Blk _ _ _ _; rw [HW3.out]; exact blk_alloc _ _ _
  have HO3 : Hid (w3.ownsRow w1.heap.size 122 2 (.slice a m cc) m (flat (patSteps pat.data.toList))) := by show World.ownsRow _ _ _ _ _ _ _; rw [HW3.out]; exact HW.out.1.alloc _
  have HBw3 : Hid (Below w.heap.size w w3) := by show Below _ _ _; rw [HW3.out]; exact HBw.out.alloc HBw.out.size _
  have hs4 : w2.heap.size < w3.heap.size := by rw [HW3.out]; simp
  have hw3 := HW3.out.symm
  rw [hw3]
  clear hw3 HW3 c5 HQ5
  have hmk := run_makeSlice_full (P := Tryz.prog) w3.drew 0 91 96 i0 _ 5 Tryz.underlying91 hi0 hz0 hz1 .i64 .i64 n (by omega) (by rw [hz2]; omega) (by unfold maxLen; omega) (Nat.zero_le _)
  obtain ⟨wm, hrun, hownm, hgm⟩ := hmk
  rw [made_srcs n (by omega) (by omega)] at hownm
  have z0 := HZ3.out.cell 0
  have z1 := HZ3.out.cell 1
  have z2 := HZ3.out.cell 2
  have z3' := HZ3.out.cell 3
  have z4 := HZ3.out.cell 4
  have z5' := HZ3.out.cell 5
  have p0 := HP3.out.cell 0
  have p1 := HP3.out.cell 1
  have p2 := HP3.out.cell 2
  simp only [Cfg.vals, List.getElem?_cons_zero, List.getElem?_cons_succ] at z0 z1 z2 z3' z4 z5' p0 p1 p2
  have HM : Hid (∀ bb v, bb < w3.heap.size → w3.cell? ⟨bb, v, none⟩ = wm.cell? ⟨bb, v, none⟩) := fun bb v hb => (World.cell?_of_block (w := w3) (w' := wm) (a := ⟨bb, v, none⟩) (hgm.block bb hb (by simp))).symm
  refine upTo_region (fun u => u.cell? ⟨w.heap.size, 0, none⟩ = some (.int .i64 n) ∧ u.cell? ⟨w.heap.size, 1, none⟩ = some (.int .i64 cl) ∧ u.cell? ⟨w.heap.size, 2, none⟩ = some (.int .i64 cp) ∧ u.cell? ⟨w.heap.size, 3, none⟩ = some (.int .i64 cr) ∧ u.cell? ⟨w.heap.size, 4, none⟩ = some (.int .i64 ci) ∧ u.cell? ⟨w.heap.size, 5, none⟩ = some (.string pat) ∧ u.cell? ⟨w2.heap.size, 0, none⟩ = some (.slice a m cc) ∧ u.cell? ⟨w2.heap.size, 1, none⟩ = some (.bool o) ∧ u.cell? ⟨w2.heap.size, 2, none⟩ = some (.int .i64 win)) 8 9 rfl (by kernel_rfl) ?_
  have hS0 : (fun u : World => u.cell? ⟨w.heap.size, 0, none⟩ = some (.int .i64 n) ∧ u.cell? ⟨w.heap.size, 1, none⟩ = some (.int .i64 cl) ∧ u.cell? ⟨w.heap.size, 2, none⟩ = some (.int .i64 cp) ∧ u.cell? ⟨w.heap.size, 3, none⟩ = some (.int .i64 cr) ∧ u.cell? ⟨w.heap.size, 4, none⟩ = some (.int .i64 ci) ∧ u.cell? ⟨w.heap.size, 5, none⟩ = some (.string pat) ∧ u.cell? ⟨w2.heap.size, 0, none⟩ = some (.slice a m cc) ∧ u.cell? ⟨w2.heap.size, 1, none⟩ = some (.bool o) ∧ u.cell? ⟨w2.heap.size, 2, none⟩ = some (.int .i64 win)) w3.drew := ⟨z0, z1, z2, z3', z4, z5', p0, p1, p2⟩
  refine upTo_take (i := 0) (v := ?v2_0) rfl (by kernel_rfl) (by kernel_rfl) (by kernel_rfl) (by kernel_rfl) (by rfl) (fun _ _ _ h => h) (by rfl) hS0 ?hy2_0 ?rest2_0
  case hy2_0 => (intro u hu; (try dsimp only at hu); go_simp; first | done | with_reducible rfl)
  (try simp only [Act.put, List.setIfInBounds_toArray, List.set_cons_zero, List.set_cons_succ, List.getElem_toArray, List.getElem_cons_succ, List.getElem_cons_zero])
  refine upTo_take (i := 1) (v := ?v2_1) rfl (by kernel_rfl) (by kernel_rfl) (by kernel_rfl) (by kernel_rfl) (by rfl) (fun _ _ _ h => h) (by rfl) hS0 ?hy2_1 ?rest2_1
  case hy2_1 => (intro u hu; (try dsimp only at hu); go_simp; first | done | with_reducible rfl)
  (try simp only [Act.put, List.setIfInBounds_toArray, List.set_cons_zero, List.set_cons_succ, List.getElem_toArray, List.getElem_cons_succ, List.getElem_cons_zero])
  refine upTo_take (i := 2) (v := ?v2_2) rfl (by kernel_rfl) (by kernel_rfl) (by kernel_rfl) (by kernel_rfl) (by rfl) (fun _ _ _ h => h) (by rfl) hS0 ?hy2_2 ?rest2_2
  case hy2_2 => (intro u hu; (try dsimp only at hu); go_simp; first | done | with_reducible rfl)
  (try simp only [Act.put, List.setIfInBounds_toArray, List.set_cons_zero, List.set_cons_succ, List.getElem_toArray, List.getElem_cons_succ, List.getElem_cons_zero])
  refine upTo_take (i := 3) (v := ?v2_3) rfl (by kernel_rfl) (by kernel_rfl) (by kernel_rfl) (by kernel_rfl) (by rfl) (fun _ _ _ h => h) (by rfl) hS0 ?hy2_3 ?rest2_3
  case hy2_3 => (intro u hu; (try dsimp only at hu); go_simp; first | done | with_reducible rfl)
  (try simp only [Act.put, List.setIfInBounds_toArray, List.set_cons_zero, List.set_cons_succ, List.getElem_toArray, List.getElem_cons_succ, List.getElem_cons_zero])
  refine upTo_one (i := 4) (by kernel_rfl) rfl (fun K hK => ?_)
  go_simp
  have hlw : w.heap.size < w3.heap.size := by omega
  have hl2 : w2.heap.size < w3.heap.size := by omega
  have hM1 : ∀ k v, w3.cell? ⟨w.heap.size, k, none⟩ = some v → wm.cell? ⟨w.heap.size, k, none⟩ = some v := fun k v h => (HM.out _ _ hlw).symm.trans h
  have hM2 : ∀ k v, w3.cell? ⟨w2.heap.size, k, none⟩ = some v → wm.cell? ⟨w2.heap.size, k, none⟩ = some v := fun k v h => (HM.out _ _ hl2).symm.trans h
  have hsm : w3.heap.size < wm.heap.size := (hownm.lt w3.heap.size rfl).2
  have hA1 : ∀ oo k v, w3.cell? ⟨w.heap.size, k, none⟩ = some v → (wm.alloc oo).cell? ⟨w.heap.size, k, none⟩ = some v := fun oo k v h => (World.cell?_alloc_past _ _ _ (by show w.heap.size < wm.heap.size; omega)).trans (hM1 k v h)
  have hA2 : ∀ oo k v, w3.cell? ⟨w2.heap.size, k, none⟩ = some v → (wm.alloc oo).cell? ⟨w2.heap.size, k, none⟩ = some v := fun oo k v h => (World.cell?_alloc_past _ _ _ (by show w2.heap.size < wm.heap.size; omega)).trans (hM2 k v h)
  have HS1 : Hid (S9 wm w w2 n cl cp cr ci pat a m cc o win) := ⟨hM1 _ _ z0, hM1 _ _ z1, hM1 _ _ z2, hM1 _ _ z3', hM1 _ _ z4, hM1 _ _ z5', hM2 _ _ p0, hM2 _ _ p1, hM2 _ _ p2⟩
  have HS2 : Hid (∀ oo, S9 (wm.alloc oo) w w2 n cl cp cr ci pat a m cc o win) := fun oo => ⟨hA1 _ _ _ z0, hA1 _ _ _ z1, hA1 _ _ _ z2, hA1 _ _ _ z3', hA1 _ _ _ z4, hA1 _ _ _ z5', hA2 _ _ _ p0, hA2 _ _ _ p1, hA2 _ _ _ p2⟩
  clear hA1 hA2 hM1 hM2
  refine hK.out _ _ (fun _ => HS1.out) ?_
  clear hK K hS0
  (try simp only [Act.put, List.setIfInBounds_toArray, List.set_cons_zero, List.set_cons_succ, List.getElem_toArray, List.getElem_cons_succ, List.getElem_cons_zero])
  refine upTo_one (i := 5) (by kernel_rfl) rfl (fun K hK => ?_)
  go_simp
  refine hK.out _ _ (fun _ => HS1.out) ?_
  clear hK K
  (try simp only [Act.put, List.setIfInBounds_toArray, List.set_cons_zero, List.set_cons_succ, List.getElem_toArray, List.getElem_cons_succ, List.getElem_cons_zero])
  refine upTo_one (i := 6) (by kernel_rfl) rfl (fun K hK => ?_)
  go_simp
  refine hK.out _ _ (fun _ => HS2.out _) ?_
  clear hK K
  (try simp only [Act.put, List.setIfInBounds_toArray, List.set_cons_zero, List.set_cons_succ, List.getElem_toArray, List.getElem_cons_succ, List.getElem_cons_zero])
  refine upTo_one (i := 7) (by kernel_rfl) rfl (fun K hK => ?_)
  go_simp
  refine hK.out _ _ (fun _ => HS2.out _) ?_
  clear hK K
  (try simp only [Act.put, List.setIfInBounds_toArray, List.set_cons_zero, List.set_cons_succ, List.getElem_toArray, List.getElem_cons_succ, List.getElem_cons_zero])
  refine upTo_one (i := 8) (by kernel_rfl) rfl (fun K hK => ?_)
  go_simp
  refine hK.out _ _ (fun h => absurd rfl h) ?_
  clear hK K
  (try simp only [Act.put, List.setIfInBounds_toArray, List.set_cons_zero, List.set_cons_succ, List.getElem_toArray, List.getElem_cons_succ, List.getElem_cons_zero])
  refine upTo_done (by kernel_rfl) ?_
  clear z0 z1 z2 z3' z4 z5' p0 p1 p2 hrun
  go_wp2
  go_ret2
  obtain ⟨hW1, hW2, hW3, hW4⟩ := HW.out
  subst hW3
  subst hW4
  have hBm : Below w.heap.size w wm := (HBw3.out.drew).grown hgm (by show _ ≤ w3.heap.size; omega) (fun k e => by simp at e)
  have hst : wm.ownsRow w1.heap.size 122 2 (.slice a m cc) m (flat (patSteps pat.data.toList)) := World.ownsRow.kept (show w3.drew.ownsRow _ _ _ _ _ _ from HO3.out) hgm (by
    cases hx : (Value.slice a m cc).ownBlock with
    | none => exact Or.inl rfl
    | some z => exact Or.inr (by simp))
  have hpa : ∀ k, bk a = some k → w1.heap.size ≤ k ∧ k < w3.heap.size := fun k e => by
    have h1 := HO3.out.lt k (by rw [bk_own]; exact e)
    exact h1
  subst hW2
  refine ⟨wm.heap.size, a, cc, w3.heap.size, by simp, ⟨?_, ?_, ?_, ?_, ?_, ?_, ?_, ?_⟩, ?_, ?_⟩
  · have e : Ref.vals (newRef ⟨n, cl, cp, cr, ci, pat⟩ n a cc w3.heap.size) = [.int .i64 n, .int .i64 cl, .int .i64 cp, .int .i64 cr, .int .i64 ci, .string pat, .slice a (patSteps pat.data.toList).length cc, .bool (patOne pat.data.toList), .int .i64 (patWin pat.data.toList), .slice (some ⟨w3.heap.size, 0, none⟩) n n, .slice none 0 0, .slice none 0 0, .int .i64 (-2199023255552)] := by simp [Ref.vals, newRef, Cfg.vals]
    rw [e]
    exact blk_alloc _ _ _
  · exact toRow (hst.alloc _)
  · show Row _ _ _ _ (List.replicate n zSrc).length _ _
    rw [List.length_replicate]
    exact toRow (hownm.alloc _)
  · exact Row.nil _ _ _
  · exact Row.nil _ _ _
  · intro i r hr
    have : r = zSrc := (List.mem_replicate.1 (List.mem_of_getElem? hr)).2
    subst this
    exact Row.nil _ _ _
  · intro i r hr
    have : r = zSrc := (List.mem_replicate.1 (List.mem_of_getElem? hr)).2
    subst this
    exact Row.nil _ _ _
  · refine pd3 (b := wm.heap.size) (sg := w3.heap.size) (p := bk a) (fun e => by have := hpa _ e; omega) (by omega) (fun e => by have := hpa _ e; omega) (L := [none, none] ++ (List.replicate n zSrc).flatMap (fun r => [bk r.ma, bk r.qa])) ?_
    intro x hx
    simp only [List.cons_append, List.nil_append, List.mem_cons, List.mem_flatMap, List.mem_replicate] at hx
    rcases hx with h | h | ⟨r, ⟨_, rfl⟩, h⟩
    · exact h
    · exact h
    · simpa [zSrc, bk] using h
  · intro k hk
    rcases fp_mem hk with e | e | e | e | e | ⟨i, hi, e | e⟩
    · omega
    · have := hpa k e; omega
    · have : k = w3.heap.size := e; omega
    · simp [newRef, bk] at e
    · simp [newRef, bk] at e
    · simp [newRef, zSrc, bk] at e
    · simp [newRef, zSrc, bk] at e
  · exact hBm.alloc hBm.size _
end Go.Proofs.YthiabdpgieppoaaGreat
