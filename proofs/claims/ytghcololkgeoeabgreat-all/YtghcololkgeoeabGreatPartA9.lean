import Derived.Test.YtghcololkgeoeabGreatPartA7
namespace Go.Proofs.YtghcololkgeoeabGreat
open Go.RowKit
set_option linter.unusedVariables false
set_option linter.unusedSimpArgs false
attribute [local go_sem ↓] Go.wp_at_zero Go.wp_at_succ

def aheadB (a c : Ev) : Bool := decide (a.ts < c.ts) || (decide (a.ts = c.ts) && (decide (a.src < c.src) || (decide (a.src = c.src) && decide (a.seq < c.seq))))
set_option maxRecDepth 100000 in
set_option maxHeartbeats 2000000 in
theorem ahead_any (a c : Ev) (w : World) :
    Calls Tryz.prog 46 #[a.agg, c.agg] w fun e w' => e = .returned (.bool (aheadB a c)) ∧ Below w.heap.size w w' := by
  have hfin : ∀ o o2, Below w.heap.size w ((w.alloc o).alloc o2) := fun o o2 => ((Below.refl _ _).alloc (Nat.le_refl _) o).alloc (by simp) o2
  unfold Ev.agg
  by_cases h1 : a.ts < c.ts
  · have e : aheadB a c = true := by simp [aheadB, h1]
    have HE : Hid (aheadB a c = true) := e
    clear e
    go_enter Tryz.func46, Tryz.ntmps46
    go_wp2
    go_ret
    exact ⟨ret_bool HE.out.symm, hfin _ _⟩
  · have hd1 : decide (a.ts < c.ts) = false := by simpa using h1
    by_cases h2 : a.ts = c.ts
    · have hb2 : (a.ts == c.ts) = true := by simpa using h2
      by_cases h3 : a.src < c.src
      · have HE : Hid (aheadB a c = true) := by show _ = _; simp [aheadB, h2, h3]
        have H2 : Hid (a.ts = c.ts) := h2
        clear h2
        go_enter Tryz.func46, Tryz.ntmps46
        go_wp2
        go_ret
        exact ⟨ret_bool HE.out.symm, hfin _ _⟩
      · have hd3 : decide (a.src < c.src) = false := by simpa using h3
        by_cases h4 : a.src = c.src
        · have hb4 : (a.src == c.src) = true := by simpa using h4
          by_cases h5 : a.seq < c.seq
          · have HE : Hid (aheadB a c = true) := by show _ = _; simp [aheadB, h2, h4, h5]
            clear h2 h4
            go_enter Tryz.func46, Tryz.ntmps46
            go_wp2
            go_ret
            exact ⟨ret_bool HE.out.symm, hfin _ _⟩
          · have hd5 : decide (a.seq < c.seq) = false := by simpa using h5
            have HE : Hid (aheadB a c = false) := by show _ = _; simp [aheadB, h2, h4]; omega
            clear h2 h4
            go_enter Tryz.func46, Tryz.ntmps46
            go_wp2
            go_ret
            exact ⟨ret_bool HE.out.symm, hfin _ _⟩
        · have hb4 : (a.src == c.src) = false := by simpa using h4
          have HE : Hid (aheadB a c = false) := by show _ = _; simp [aheadB, h2, h3, h4]
          clear h2 h4
          go_enter Tryz.func46, Tryz.ntmps46
          go_wp2
          go_ret
          exact ⟨ret_bool HE.out.symm, hfin _ _⟩
    · have hb2 : (a.ts == c.ts) = false := by simpa using h2
      have HE : Hid (aheadB a c = false) := by show _ = _; simp [aheadB, h1, h2]
      clear h2
      go_enter Tryz.func46, Tryz.ntmps46
      go_wp2
      go_ret
      exact ⟨ret_bool HE.out.symm, hfin _ _⟩

def bestTo (m : Int) (l : List Ev) (taken : List Bool) : Nat → Option Nat
  | 0 => none
  | k + 1 => match l[k]?, taken[k]? with
    | some e, some false => if m ≤ e.ts then bestTo m l taken k else match bestTo m l taken k with
      | none => some k
      | some j => match l[j]? with | some f => if aheadB e f then some k else some j | none => some j
    | _, _ => bestTo m l taken k
def bools (l : List Bool) : List Value := l.map Value.bool
theorem bools_get (l : List Bool) (j : Nat) (h : j < l.length) : (bools l)[j]? = some (.bool l[j]) := by simp [bools, List.getElem?_eq_getElem h]
theorem bestTo_lt (m : Int) (l : List Ev) (taken : List Bool) : ∀ k j, bestTo m l taken k = some j → j < k ∧ j < l.length ∧ taken[j]? = some false := by
  intro k
  induction k with
  | zero => intro j h; simp [bestTo] at h
  | succ k ih =>
    intro j h
    rw [bestTo] at h
    split at h
    · rename_i e he ht
      have hk : k < l.length := (List.getElem?_eq_some_iff.1 he).1
      split at h
      · have := ih j h; exact ⟨by omega, this.2⟩
      · split at h
        · simp only [Option.some.injEq] at h; subst h; exact ⟨by omega, hk, ht⟩
        · rename_i j0 hj0
          have h0 := ih j0 hj0
          split at h
          · split at h
            · simp only [Option.some.injEq] at h; subst h; exact ⟨by omega, hk, ht⟩
            · simp only [Option.some.injEq] at h; subst h; exact ⟨by omega, h0.2⟩
          · simp only [Option.some.injEq] at h; subst h; exact ⟨by omega, h0.2⟩
    · have := ih j h; exact ⟨by omega, this.2⟩

def selRun (m : Int) (l : List Ev) : Nat → List Bool × List Ev
  | 0 => (List.replicate l.length false, [])
  | n + 1 => match bestTo m l (selRun m l n).1 l.length with
    | none => selRun m l n
    | some j => ((selRun m l n).1.set j true, (selRun m l n).2 ++ (l[j]?).toList)
theorem selRun_len (m : Int) (l : List Ev) : ∀ n, (selRun m l n).1.length = l.length ∧ (selRun m l n).2.length ≤ n := by
  intro n
  induction n with
  | zero => simp [selRun]
  | succ n ih =>
    rw [selRun]
    split
    · exact ⟨ih.1, by omega⟩
    · rename_i j _
      refine ⟨by simp [ih.1], ?_⟩
      simp only [List.length_append]
      cases l[j]? <;> simp <;> omega
theorem selRun_count (m : Int) (l : List Ev) : ∀ n, (selRun m l n).2.length + (selRun m l n).1.count false = l.length := by
  intro n
  induction n with
  | zero => simp [selRun]
  | succ n ih =>
    rw [selRun]
    split
    · exact ih
    · rename_i j hj
      obtain ⟨_, hjl, hjt⟩ := bestTo_lt _ _ _ _ _ hj
      have hlt : j < (selRun m l n).1.length := (List.getElem?_eq_some_iff.1 hjt).1
      have hv : (selRun m l n).1[j] = false := (List.getElem?_eq_some_iff.1 hjt).2
      simp only [List.getElem?_eq_getElem hjl, Option.toList_some, List.length_append, List.length_cons, List.length_nil]
      rw [List.count_set hlt, hv]
      have hp : 0 < (selRun m l n).1.count false := List.count_pos_iff.2 (hv ▸ List.getElem_mem hlt)
      simp
      omega
def lenOf : Value → Nat | .slice _ n _ => n | _ => 0
theorem Tryz.infoBool : (Tryz.prog.info? 4).map (fun i => (i.zero, i.size, i.bytes)) = some (some (.bool false), 1, 1) := by kernel_rfl
abbrev u11 (u : World) (b g k j : Nat) (R : Ref) (A C : Ev) : Prop := u.cell? ⟨b, 10, none⟩ = some (.slice (some ⟨g, 0, none⟩) R.all.length R.ac) ∧ u.cell? ⟨g, k * 5, none⟩ = some (.int .i64 A.src) ∧ u.cell? ⟨g, k * 5 + 1, none⟩ = some (.int .i64 A.seq) ∧ u.cell? ⟨g, k * 5 + 2, none⟩ = some (.int .i64 A.ts) ∧ u.cell? ⟨g, k * 5 + 3, none⟩ = some (.int .i64 A.kind) ∧ u.cell? ⟨g, k * 5 + 4, none⟩ = some (.int .i64 A.val) ∧ u.cell? ⟨g, j * 5, none⟩ = some (.int .i64 C.src) ∧ u.cell? ⟨g, j * 5 + 1, none⟩ = some (.int .i64 C.seq) ∧ u.cell? ⟨g, j * 5 + 2, none⟩ = some (.int .i64 C.ts) ∧ u.cell? ⟨g, j * 5 + 3, none⟩ = some (.int .i64 C.kind) ∧ u.cell? ⟨g, j * 5 + 4, none⟩ = some (.int .i64 C.val)
theorem ownBase {w : World} {base base' : Nat} {t : TypeId} {sz : Nat} {v : Value} {n : Nat} {xs : List Value} (h : w.ownsRow base t sz v n xs) (hb : base' ≤ base) : w.ownsRow base' t sz v n xs := by
  obtain ⟨h1, h2⟩ := h
  refine ⟨h1, ?_⟩
  rcases h2 with h2 | ⟨g, cap, cur, hv, hg, r⟩
  · exact Or.inl h2
  · exact Or.inr ⟨g, cap, cur, hv, by omega, r⟩
def bestI (o : Option Nat) : Int := match o with | none => -1 | some j => j

set_option maxRecDepth 100000 in
set_option maxHeartbeats 4000000 in
theorem rlog_any (b : Nat) (R : Ref) (w : World) (hM : MemR w b R) (hall : R.all.length ≤ 1000) :
    Calls Tryz.prog 18 #[.pointer (some ⟨b, 0, none⟩)] w fun e w' => ∃ (n : Nat) (a : Option Addr) (c : Nat), bestTo R.merged R.all (selRun R.merged R.all n).1 R.all.length = none ∧
      e = .returned (.slice a (selRun R.merged R.all n).2.length c) ∧ w'.ownsRow w.heap.size 30 5 (.slice a (selRun R.merged R.all n).2.length c) (selRun R.merged R.all n).2.length (evs (selRun R.merged R.all n).2) ∧ Below w.heap.size w w' := by
  obtain ⟨j0, hj0, hy0, hy1, hy2⟩ := info_parts Tryz.infoEv
  obtain ⟨i0, hi0, hz0, hz1, hz2⟩ := info_parts Tryz.infoBool
  have c10 := hM.cells.2.2.1
  have hmk := run_makeSlice_full (P := Tryz.prog) w w.heap.size 101 4 i0 (.bool false) 1 Tryz.underlying101 hi0 hz0 hz1 .i64 .i64 R.all.length (by omega) (by rw [hz2]; omega) (by unfold maxLen; omega) (Nat.le_refl _)
  obtain ⟨wm, hrun, hownm, hgm⟩ := hmk
  go_enter Tryz.func18, Tryz.ntmps18
  go_wp2
  have hbm : Below w.heap.size w wm := (Below.refl _ w).grown hgm (Nat.le_refl _) (fun k e => by simp at e)
  have HTm : Hid (wm.ownsRow w.heap.size 4 1 (.slice (some ⟨w.heap.size, 0, none⟩) R.all.length R.all.length) R.all.length (bools (selRun R.merged R.all 0).1)) := by
    show World.ownsRow _ _ _ _ _ _ _
    have e : bools (selRun R.merged R.all 0).1 = (madeCells (Value.bool false).cells (R.all.length * 1)).toList := by
      show bools (List.replicate R.all.length false) = _
      rw [show (Value.bool false).cells = #[Value.bool false] from rfl, toList_madeCells_one, Nat.mul_one]
      simp [bools]
    rw [e]; exact hownm
  clear hrun hownm hgm c10
  go_loopw [3] (fun v wr => ∃ (n : Nat) (a : Option Addr) (c : Nat), v = .slice a (selRun R.merged R.all n).2.length c ∧ wr.ownsRow (w.heap.size + 1) 30 5 (.slice a (selRun R.merged R.all n).2.length c) (selRun R.merged R.all n).2.length (evs (selRun R.merged R.all n).2) ∧ wr.ownsRow w.heap.size 4 1 (.slice (some ⟨w.heap.size, 0, none⟩) R.all.length R.all.length) R.all.length (bools (selRun R.merged R.all n).1) ∧ w.heap.size < wr.heap.size ∧ Below w.heap.size w wr) (fun v _ => R.all.length - lenOf v)
  case atStart => exact ⟨0, none, 0, rfl, World.ownsRow_nil _ _ _ _, HTm.out, (HTm.out.lt _ rfl).2, hbm⟩
  case round =>
    obtain ⟨n, a, c, rfl, hown, htk, hsz, hbel⟩ := hrel
    have HC := selRun_count R.merged R.all n
    have HO : Hid (wr.ownsRow (w.heap.size + 1) 30 5 (.slice a (selRun R.merged R.all n).2.length c) (selRun R.merged R.all n).2.length (evs (selRun R.merged R.all n).2)) := hown
    have HT : Hid (wr.ownsRow w.heap.size 4 1 (.slice (some ⟨w.heap.size, 0, none⟩) R.all.length R.all.length) R.all.length (bools (selRun R.merged R.all n).1)) := htk
    have hlen := (selRun_len R.merged R.all n).1
    have HS : Hid (∀ j, bestTo R.merged R.all (selRun R.merged R.all n).1 R.all.length = some j → selRun R.merged R.all (n + 1) = ((selRun R.merged R.all n).1.set j true, (selRun R.merged R.all n).2 ++ (R.all[j]?).toList)) := fun j hj => by rw [selRun, hj]
    have HR : Hid (MemR wr b R) := hM.below hbel
    clear hown htk HTm
    generalize hsel : selRun R.merged R.all n = so at *
    obtain ⟨tk, out⟩ := so
    simp only at HO HT hlen HS HC
    obtain ⟨wo, hwo⟩ : ∃ x, x = wr := ⟨_, rfl⟩
    rw [← hwo] at HO HT hsz hbel HR ⊢
    clear hwo
    go_wp2
    go_loopw [5, 6] (fun be i wx => ∃ k : Nat, k ≤ R.all.length ∧ i = .int .i64 k ∧ be = .int .i64 (bestI (bestTo R.merged R.all tk k)) ∧ Below wo.heap.size wo wx) (fun _ i _ => R.all.length - (intOf i).toNat)
    case atStart => exact ⟨0, Nat.zero_le _, rfl, rfl, Below.refl _ _⟩
    case round =>
      obtain ⟨k, hk, rfl, rfl, hin⟩ := hrel
      have hMx := HR.out.below hin
      obtain ⟨_, _, c10, _, c12⟩ := hMx.cells
      have HTx : Hid (wr.ownsRow w.heap.size 4 1 (.slice (some ⟨w.heap.size, 0, none⟩) R.all.length R.all.length) R.all.length (bools tk)) := ownsRow_of_heap HT.out (fun k hk => hin.block k hk)
      by_cases hlt : k < R.all.length
      · have hlt' : (k : Int) < (R.all.length : Int) := by omega
        have hk0 : (0 : Int) ≤ (k : Int) := by omega
        have hkt : k < tk.length := by omega
        have t0 : wr.cell? ⟨w.heap.size, k, none⟩ = some (.bool tk[k]) := by rw [World.ownsRow.cellAt HTx.out k (by omega), bools_get tk k hkt]
        obtain ⟨g, hg, hnc, x0, x1, x2, x3, x4⟩ := evRow_cells hMx.all k hlt
        have c10' := c10
        rw [hg] at c10'
        have HG : Hid (R.aa = some ⟨g, 0, none⟩) := hg
        clear hg
        have HBs : Hid (bestTo R.merged R.all tk (k + 1) = match tk[k] with | true => bestTo R.merged R.all tk k | false => if R.merged ≤ R.all[k].ts then bestTo R.merged R.all tk k else match bestTo R.merged R.all tk k with | none => some k | some j => match R.all[j]? with | some f => if aheadB R.all[k] f then some k else some j | none => some j) := by
          show _ = _
          rw [bestTo, List.getElem?_eq_getElem hlt, List.getElem?_eq_getElem hkt]
          cases tk[k] <;> rfl
        clear c10 hMx
        cases htk : tk[k] with
        | true =>
          rw [htk] at t0
          have HB : Hid (bestTo R.merged R.all tk (k + 1) = bestTo R.merged R.all tk k) := by show _ = _; rw [HBs.out, htk]
          go_wp2
          go_quiet (fail)
          go_wp2
          go_roundw
          case rel => exact ⟨k + 1, by omega, by go_num, by rw [HB.out], bdrewN hin _⟩
          case measure => simp [intOf]; omega
        | false =>
          rw [htk] at t0
          by_cases hts : R.merged ≤ R.all[k].ts
          · have HB : Hid (bestTo R.merged R.all tk (k + 1) = bestTo R.merged R.all tk k) := by show _ = _; rw [HBs.out, htk]; simp [hts]
            go_wp2
            go_quiet (fail)
            go_wp2
            go_roundw
            case rel => exact ⟨k + 1, by omega, by go_num, by rw [HB.out], bdrewN hin _⟩
            case measure => simp [intOf]; omega
          · have hd : decide (R.merged ≤ R.all[k].ts) = false := by simpa using hts
            cases hbo : bestTo R.merged R.all tk k with
            | none =>
              have HB : Hid (bestTo R.merged R.all tk (k + 1) = some k) := by show _ = _; rw [HBs.out, htk, hbo]; simp [hts]
              have HBO : Hid (bestTo R.merged R.all tk k = none) := hbo
              clear hbo
              simp only [bestI]
              go_wp2
              go_quiet (fail)
              go_wp2
              go_roundw
              case rel => (first | exact ⟨k + 1, by omega, by go_num, by rw [HB.out] <;> rfl, bdrewN hin _⟩ | ((repeat apply Exists.intro); exact ⟨⟨k + 1, by omega, by go_num, by rw [HB.out] <;> rfl, bdrewN hin _⟩, rfl⟩))
              case measure => simp [intOf]; omega
            | some j =>
              obtain ⟨hjk, hjl, hjt⟩ := bestTo_lt _ _ _ _ _ hbo
              have HBO : Hid (bestTo R.merged R.all tk k = some j) := hbo
              have HB : Hid (bestTo R.merged R.all tk (k + 1) = if aheadB R.all[k] R.all[j] then some k else some j) := by show _ = _; rw [HBs.out, htk]; simp [hts, hbo, List.getElem?_eq_getElem hjl]
              obtain ⟨g', hg', _, y0, y1, y2, y3, y4⟩ := evRow_cells (HR.out.below hin).all j hjl
              obtain rfl : g = g' := by have := HG.out; rw [hg'] at this; simp at this; exact this.symm
              have hj' : (j : Int) < (R.all.length : Int) := by omega
              have hj0' : (0 : Int) ≤ (j : Int) := by omega
              have hjn : ¬ (j : Int) < 0 := by omega
              have hjd : decide ((j : Int) < 0) = false := by simp
              clear hbo HBs hg' HG
              simp only [bestI]
              generalize R.all[k] = A at *
              generalize R.all[j] = C at *
              go_wp2
              go_quiet (fail)
              go_upto_region 10 with fail
              refine upTo_region (fun u => u.cell? ⟨b, 10, none⟩ = some (.slice (some ⟨g, 0, none⟩) R.all.length R.ac) ∧ u.cell? ⟨g, k * 5, none⟩ = some (.int .i64 A.src) ∧ u.cell? ⟨g, k * 5 + 1, none⟩ = some (.int .i64 A.seq) ∧ u.cell? ⟨g, k * 5 + 2, none⟩ = some (.int .i64 A.ts) ∧ u.cell? ⟨g, k * 5 + 3, none⟩ = some (.int .i64 A.kind) ∧ u.cell? ⟨g, k * 5 + 4, none⟩ = some (.int .i64 A.val) ∧ u.cell? ⟨g, j * 5, none⟩ = some (.int .i64 C.src) ∧ u.cell? ⟨g, j * 5 + 1, none⟩ = some (.int .i64 C.seq) ∧ u.cell? ⟨g, j * 5 + 2, none⟩ = some (.int .i64 C.ts) ∧ u.cell? ⟨g, j * 5 + 3, none⟩ = some (.int .i64 C.kind) ∧ u.cell? ⟨g, j * 5 + 4, none⟩ = some (.int .i64 C.val)) 15 16 rfl (by kernel_rfl) ?_
              have hS0 : (fun u : World => u.cell? ⟨b, 10, none⟩ = some (.slice (some ⟨g, 0, none⟩) R.all.length R.ac) ∧ u.cell? ⟨g, k * 5, none⟩ = some (.int .i64 A.src) ∧ u.cell? ⟨g, k * 5 + 1, none⟩ = some (.int .i64 A.seq) ∧ u.cell? ⟨g, k * 5 + 2, none⟩ = some (.int .i64 A.ts) ∧ u.cell? ⟨g, k * 5 + 3, none⟩ = some (.int .i64 A.kind) ∧ u.cell? ⟨g, k * 5 + 4, none⟩ = some (.int .i64 A.val) ∧ u.cell? ⟨g, j * 5, none⟩ = some (.int .i64 C.src) ∧ u.cell? ⟨g, j * 5 + 1, none⟩ = some (.int .i64 C.seq) ∧ u.cell? ⟨g, j * 5 + 2, none⟩ = some (.int .i64 C.ts) ∧ u.cell? ⟨g, j * 5 + 3, none⟩ = some (.int .i64 C.kind) ∧ u.cell? ⟨g, j * 5 + 4, none⟩ = some (.int .i64 C.val)) (wr.drewN nq).drew := ⟨c10', x0, x1, x2, x3, x4, y0, y1, y2, y3, y4⟩
              refine upTo_tk (i := 0) (v := ?v10_0) rfl (by kernel_rfl) (fun _ _ _ h => h) (by rfl) hS0 ?h10_0 ?r10_0
              case h10_0 => (intro u hu; (try dsimp only at hu); go_simp; first | done | with_reducible rfl)
              (try simp only [Act.put, tkS])
              refine upTo_tk (i := 1) (v := ?v10_1) rfl (by kernel_rfl) (fun _ _ _ h => h) (by rfl) hS0 ?h10_1 ?r10_1
              case h10_1 => (intro u hu; (try dsimp only at hu); go_simp; first | done | with_reducible rfl)
              (try simp only [Act.put, tkS])
              refine upTo_tk (i := 2) (v := ?v10_2) rfl (by kernel_rfl) (fun _ _ _ h => h) (by rfl) hS0 ?h10_2 ?r10_2
              case h10_2 => (intro u hu; (try dsimp only at hu); go_simp; first | done | with_reducible rfl)
              (try simp only [Act.put, tkS])
              refine upTo_tk (i := 3) (v := ?v10_3) rfl (by kernel_rfl) (fun _ _ _ h => h) (by rfl) hS0 ?h10_3 ?r10_3
              case h10_3 => (intro u hu; (try dsimp only at hu); go_simp; first | done | with_reducible rfl)
              (try simp only [Act.put, tkS])
              refine upTo_tk (i := 4) (v := ?v10_4) rfl (by kernel_rfl) (fun _ _ _ h => h) (by rfl) hS0 ?h10_4 ?r10_4
              case h10_4 => (intro u hu; (try dsimp only at hu); go_simp; first | done | with_reducible rfl)
              (try simp only [Act.put, tkS])
              refine upTo_tk (i := 5) (v := ?v10_5) rfl (by kernel_rfl) (fun _ _ _ h => h) (by rfl) hS0 ?h10_5 ?r10_5
              case h10_5 => (intro u hu; (try dsimp only at hu); go_simp; first | done | with_reducible rfl)
              (try simp only [Act.put, tkS])
              refine upTo_tk (i := 6) (v := ?v10_6) rfl (by kernel_rfl) (fun _ _ _ h => h) (by rfl) hS0 ?h10_6 ?r10_6
              case h10_6 => (intro u hu; (try dsimp only at hu); go_simp; first | done | with_reducible rfl)
              (try simp only [Act.put, tkS])
              refine upTo_tk (i := 7) (v := ?v10_7) rfl (by kernel_rfl) (fun _ _ _ h => h) (by rfl) hS0 ?h10_7 ?r10_7
              case h10_7 => (intro u hu; (try dsimp only at hu); go_simp; first | done | with_reducible rfl)
              (try simp only [Act.put, tkS])
              refine upTo_tk (i := 8) (v := ?v10_8) rfl (by kernel_rfl) (fun _ _ _ h => h) (by rfl) hS0 ?h10_8 ?r10_8
              case h10_8 => (intro u hu; (try dsimp only at hu); go_simp; first | done | with_reducible rfl)
              (try simp only [Act.put, tkS])
              refine upTo_tk (i := 9) (v := ?v10_9) rfl (by kernel_rfl) (fun _ _ _ h => h) (by rfl) hS0 ?h10_9 ?r10_9
              case h10_9 => (intro u hu; (try dsimp only at hu); go_simp; first | done | with_reducible rfl)
              (try simp only [Act.put, tkS])
              refine upTo_tk (i := 10) (v := ?v10_10) rfl (by kernel_rfl) (fun _ _ _ h => h) (by rfl) hS0 ?h10_10 ?r10_10
              case h10_10 => (intro u hu; (try dsimp only at hu); go_simp; first | done | with_reducible rfl)
              (try simp only [Act.put, tkS])
              refine upTo_tk (i := 11) (v := ?v10_11) rfl (by kernel_rfl) (fun _ _ _ h => h) (by rfl) hS0 ?h10_11 ?r10_11
              case h10_11 => (intro u hu; (try dsimp only at hu); go_simp; first | done | with_reducible rfl)
              (try simp only [Act.put, tkS])
              refine upTo_tk (i := 12) (v := ?v10_12) rfl (by kernel_rfl) (fun _ _ _ h => h) (by rfl) hS0 ?h10_12 ?r10_12
              case h10_12 => (intro u hu; (try dsimp only at hu); go_simp; first | done | with_reducible rfl)
              (try simp only [Act.put, tkS])
              refine upTo_tk (i := 13) (v := ?v10_13) rfl (by kernel_rfl) (fun _ _ _ h => h) (by rfl) hS0 ?h10_13 ?r10_13
              case h10_13 => (intro u hu; (try dsimp only at hu); go_simp; first | done | with_reducible rfl)
              (try simp only [Act.put, tkS])
              refine upTo_one (i := 14) (by kernel_rfl) rfl (fun K hK => ?_)
              go_simp
              refine (ahead_any A C _).mono ?_
              rintro e w2 ⟨rfl, hb2⟩
              have hc : ∀ p v, wr.cell? p = some v → w2.cell? p = some v := fun p v h => (hb2.cell (p := p) (World.block_lt_of_cell? wr p h)).trans h
              have HC2 : Hid (u11 w2 b g k j R A C) := ⟨hc _ _ c10', hc _ _ x0, hc _ _ x1, hc _ _ x2, hc _ _ x3, hc _ _ x4, hc _ _ y0, hc _ _ y1, hc _ _ y2, hc _ _ y3, hc _ _ y4⟩
              have HB2 : Hid (Below wo.heap.size wo w2) := hin.trans ((show Below wr.heap.size wr w2 from ⟨hb2.os, hb2.tape, hb2.output, hb2.size, hb2.block⟩).mono hin.size)
              clear hc hb2
              refine hK.out _ _ (fun _ => HC2.out) ?_
              clear hK K hS0
              (try simp only [Act.put, tkS])
              refine upTo_one (i := 15) (by kernel_rfl) rfl (fun K hK => ?_)
              go_simp
              refine hK.out _ _ (fun h => absurd rfl h) ?_
              clear hK K
              (try simp only [Act.put, tkS])
              refine upTo_done (by kernel_rfl) ?_
              cases hah : aheadB A C with
              | true =>
                have HB' : Hid (bestTo R.merged R.all tk (k + 1) = some k) := by show _ = _; rw [HB.out, hah]; rfl
                go_wp2
                go_roundw
                case rel => (first | exact ⟨k + 1, by omega, by go_num, by rw [HB'.out] <;> rfl, HB2.out⟩ | ((repeat apply Exists.intro); exact ⟨⟨k + 1, by omega, by go_num, by rw [HB'.out] <;> rfl, HB2.out⟩, rfl⟩))
                case measure => simp [intOf]; omega
              | false =>
                have HB' : Hid (bestTo R.merged R.all tk (k + 1) = some j) := by show _ = _; rw [HB.out, hah]; rfl
                go_wp2
                go_roundw
                case rel => (first | exact ⟨k + 1, by omega, by go_num, by rw [HB'.out] <;> rfl, HB2.out⟩ | ((repeat apply Exists.intro); exact ⟨⟨k + 1, by omega, by go_num, by rw [HB'.out] <;> rfl, HB2.out⟩, rfl⟩))
                case measure => simp [intOf]; omega
      · obtain rfl : k = R.all.length := by omega
        cases hbo : bestTo R.merged R.all tk R.all.length with
        | none =>
          simp only [bestI]
          go_wp2
          go_ret
          refine ⟨n, a, c, by rw [hsel]; exact hbo, ret_slice (by rw [hsel]), ?_, hbel.trans (hin.mono hbel.size)⟩
          rw [hsel]
          exact ownBase (ownsRow_of_heap HO.out (fun k hk => hin.block k hk)) (by omega)
        | some j =>
          obtain ⟨_, hjl, hjt⟩ := bestTo_lt _ _ _ _ _ hbo
          have HN : Hid (selRun R.merged R.all (n + 1) = (tk.set j true, out ++ [R.all[j]])) := by show _ = _; rw [HS.out j hbo, List.getElem?_eq_getElem hjl]; rfl
          have hjlt : j < tk.length := by omega
          have htj : tk[j] = false := (List.getElem?_eq_some_iff.1 hjt).2
          have t0 : wr.cell? ⟨w.heap.size, j, none⟩ = some (.bool false) := by rw [World.ownsRow.cellAt HTx.out j (by omega), bools_get tk j hjlt, htj]
          have t0f := World.ownsRow.frozenAt HTx.out j
          have hj' : (j : Int) < (R.all.length : Int) := by omega
          have hj0' : (0 : Int) ≤ (j : Int) := by omega
          have hjn : ¬ (j : Int) < 0 := by omega
          have hout : out.length < R.all.length := by
            have hp : 0 < tk.count false := List.count_pos_iff.2 (htj ▸ List.getElem_mem hjlt)
            omega
          simp only [bestI]
          clear hbo HS
          go_upto_region 16 with fail
          have HM1 : Hid (MemR (wr.setCell ⟨w.heap.size, j, none⟩ (.bool true)) b R) := (HR.out.below hin).kept ((Kept.refl (fun k => k = w.heap.size) wr).setCell (fun _ => rfl) _) (fun k hk e => by have := hM.fp_lt k hk; omega)
          have HO1 : Hid ((wr.setCell ⟨w.heap.size, j, none⟩ (.bool true)).ownsRow (w.heap.size + 1) 30 5 (.slice a out.length c) out.length (evs out)) := ownsRow_setCell_below (ownsRow_of_heap HO.out (fun k hk => hin.block k hk)) (by simp) _
          have HT1 : Hid ((wr.setCell ⟨w.heap.size, j, none⟩ (.bool true)).ownsRow w.heap.size 4 1 (.slice (some ⟨w.heap.size, 0, none⟩) R.all.length R.all.length) R.all.length (bools (tk.set j true))) := by
            have e : bools (tk.set j true) = (bools tk).set j (.bool true) := by simp [bools, List.map_set]
            show World.ownsRow _ _ _ _ _ _ _
            rw [e]; exact (World.ownsRow.stored HTx.out j (.bool true)).1
          have HB1 : Hid (Below w.heap.size w (wr.setCell ⟨w.heap.size, j, none⟩ (.bool true))) := (hbel.trans (hin.mono hbel.size)).setCell (p := ⟨w.heap.size, j, none⟩) (Nat.le_refl _) _
          have hs1 : w.heap.size < (wr.setCell ⟨w.heap.size, j, none⟩ (.bool true)).heap.size := by have := hin.size; simp [World.setCell]; omega
          clear t0 t0f c10 c12 HTx
          generalize wr.setCell ⟨w.heap.size, j, none⟩ (.bool true) = w1 at *
          have c10 := HM1.out.cells.2.2.1
          obtain ⟨g, hg, _, y0, y1, y2, y3, y4⟩ := evRow_cells HM1.out.all j hjl
          rw [hg] at c10
          clear hg
          obtain ⟨C, HCe⟩ := hex R.all[j]
          rw [← HCe.out] at y0 y1 y2 y3 y4
          go_wp2_with (at_builtin; refine wpList_append_lies _ rfl _ _ _ rfl (w.heap.size + 1) 30 j0 _ 5 40 Tryz.underlying22 hj0 hy0 hy1 hy2 rfl (by omega) (.slice a out.length c) out.length (evs out) rfl (HO1.out.alloc _) ⟨w1.heap.size, 0, none⟩ 1 1 C.vals rfl rfl (news_new _ _ rfl C.vals 30) (Ev.one C) (by omega) (by unfold maxLen; omega) (by omega) (by simp; omega) _ rfl ?_; intro g2 cap w3 hown3 hgrow hat hlt3)
          have hgr : ∀ k, (Value.slice a out.length c).ownBlock = some k → w.heap.size + 1 ≤ k := fun k e => (HO1.out.lt k e).1
          have HB3 : Hid (Below w.heap.size w w3) := (HB1.out.alloc (by omega) _).grown hgrow (by simp; omega) (fun k e => by have := hgr k e; omega)
          have HT3 : Hid (w3.ownsRow w.heap.size 4 1 (.slice (some ⟨w.heap.size, 0, none⟩) R.all.length R.all.length) R.all.length (bools (tk.set j true))) := World.ownsRow.kept (HT1.out.alloc _) hgrow (Or.inr (fun e => by have := hgr w.heap.size (by rw [← e]; rfl); omega))
          go_roundw
          case rel =>
            refine ⟨n + 1, some ⟨g2, 0, none⟩, cap, ?_, ?_, ?_, ?_, HB3.out⟩
            · rw [HN.out]; simp
            · rw [HN.out, ← HCe.out]
              have e : evs (out ++ [C]) = evs out ++ C.vals := evs_snoc out C
              simp only [e, List.length_append, List.length_cons, List.length_nil]
              exact hown3
            · rw [HN.out]; exact HT3.out
            · have := hgrow.size; simp at this; omega
          case measure => simp [lenOf]; omega
end Go.Proofs.YtghcololkgeoeabGreat
namespace Go.Proofs.YtghcololkgeoeabGreat
open Go.RowKit
open Classical
set_option linter.unusedVariables false
set_option linter.unusedSimpArgs false
attribute [local go_sem ↓] Go.wp_at_zero Go.wp_at_succ

def Cfg.agg (c : Cfg) : Value := .agg #[.int .i64 c.sources, .int .i64 c.slack, .int .i64 c.policy, .int .i64 c.room, .int .i64 c.idle, .string c.pat]
def Cfg.fits (c : Cfg) : Prop := 1 ≤ c.sources ∧ c.sources ≤ 6 ∧ 0 ≤ c.slack ∧ c.slack ≤ 1000 ∧ 0 ≤ c.policy ∧ c.policy ≤ 2 ∧ 1 ≤ c.room ∧ c.room ≤ 32 ∧ 0 ≤ c.idle ∧ c.idle ≤ 1000
set_option maxRecDepth 100000 in
set_option maxHeartbeats 4000000 in
theorem rnew_config (c : Cfg) (w : World) (hf : ¬ c.fits) :
    Calls Tryz.prog 11 #[c.agg] w fun e w' => e = .returned (.tuple #[.pointer none, .int .i64 1]) ∧ Below w.heap.size w w' := by
  have hfin : ∀ o, Below w.heap.size w (w.alloc o) := fun o => (Below.refl _ _).alloc (Nat.le_refl _) o
  have HF : Hid (¬ c.fits) := hf
  clear hf
  unfold Cfg.agg
  by_cases k0 : 1 ≤ c.sources
  rotate_left
  · have hd : decide (1 ≤ c.sources) = false := by simpa using k0
    go_enter Tryz.func11, Tryz.ntmps11
    go_wp2
    go_ret2
    exact ⟨rfl, hfin _⟩
  by_cases k1 : c.sources ≤ 6
  rotate_left
  · have hd : decide (c.sources ≤ 6) = false := by simpa using k1
    go_enter Tryz.func11, Tryz.ntmps11
    go_wp2
    go_ret2
    exact ⟨rfl, hfin _⟩
  by_cases k2 : 0 ≤ c.slack
  rotate_left
  · have hd : decide (0 ≤ c.slack) = false := by simpa using k2
    go_enter Tryz.func11, Tryz.ntmps11
    go_wp2
    go_ret2
    exact ⟨rfl, hfin _⟩
  by_cases k3 : c.slack ≤ 1000
  rotate_left
  · have hd : decide (c.slack ≤ 1000) = false := by simpa using k3
    go_enter Tryz.func11, Tryz.ntmps11
    go_wp2
    go_ret2
    exact ⟨rfl, hfin _⟩
  by_cases k4 : 0 ≤ c.policy
  rotate_left
  · have hd : decide (0 ≤ c.policy) = false := by simpa using k4
    go_enter Tryz.func11, Tryz.ntmps11
    go_wp2
    go_ret2
    exact ⟨rfl, hfin _⟩
  by_cases k5 : c.policy ≤ 2
  rotate_left
  · have hd : decide (c.policy ≤ 2) = false := by simpa using k5
    go_enter Tryz.func11, Tryz.ntmps11
    go_wp2
    go_ret2
    exact ⟨rfl, hfin _⟩
  by_cases k6 : 1 ≤ c.room
  rotate_left
  · have hd : decide (1 ≤ c.room) = false := by simpa using k6
    go_enter Tryz.func11, Tryz.ntmps11
    go_wp2
    go_ret2
    exact ⟨rfl, hfin _⟩
  by_cases k7 : c.room ≤ 32
  rotate_left
  · have hd : decide (c.room ≤ 32) = false := by simpa using k7
    go_enter Tryz.func11, Tryz.ntmps11
    go_wp2
    go_ret2
    exact ⟨rfl, hfin _⟩
  by_cases k8 : 0 ≤ c.idle
  rotate_left
  · have hd : decide (0 ≤ c.idle) = false := by simpa using k8
    go_enter Tryz.func11, Tryz.ntmps11
    go_wp2
    go_ret2
    exact ⟨rfl, hfin _⟩
  by_cases k9 : c.idle ≤ 1000
  rotate_left
  · have hd : decide (c.idle ≤ 1000) = false := by simpa using k9
    go_enter Tryz.func11, Tryz.ntmps11
    go_wp2
    go_ret2
    exact ⟨rfl, hfin _⟩
  exact absurd ⟨k0, k1, k2, k3, k4, k5, k6, k7, k8, k9⟩ HF.out

theorem check_zero {l : List UInt8} {x y : Int} (h : CheckIs wholeP goesP l x y) : x = 0 ↔ (l.length ≤ 60 ∧ wholeP l) := by
  rcases h with ⟨a, e, _⟩ | ⟨a, b, e, _⟩ | ⟨a, b, e, _⟩
  · constructor
    · intro h; omega
    · rintro ⟨h, _⟩; omega
  · exact ⟨fun _ => ⟨a, b⟩, fun _ => e⟩
  · constructor
    · intro h; omega
    · rintro ⟨_, h⟩; exact absurd h b
set_option maxRecDepth 100000 in
set_option maxHeartbeats 4000000 in
theorem rnew_pattern (c : Cfg) (w : World) (hs : c.pat.size ≤ maxLen) (hf : c.fits) (hp : ¬ (c.pat.data.toList.length ≤ 60 ∧ wholeP c.pat.data.toList)) :
    Calls Tryz.prog 11 #[c.agg] w fun e w' => e = .returned (.tuple #[.pointer none, .int .i64 2]) ∧ Below w.heap.size w w' := by
  have HP : Hid (¬ (c.pat.data.toList.length ≤ 60 ∧ wholeP c.pat.data.toList)) := hp
  obtain ⟨k0, k1, k2, k3, k4, k5, k6, k7, k8, k9⟩ := hf
  clear hp
  unfold Cfg.agg
  go_enter Tryz.func11, Tryz.ntmps11
  go_wp2_with (go_at_call 37; refine (rcheck_any _ _ hs).mono ?_; rintro e w1 ⟨x, y, rfl, hc, hb1⟩; have hx : (x != 0) = true := by (have := check_zero hc; simp; intro e; exact HP.out (this.1 e)))
  go_ret2
  exact ⟨rfl, ((Below.refl _ _).alloc (Nat.le_refl _) _).trans (hb1.mono (by simp))⟩

theorem pd3 {b sg : Nat} {p : Option Nat} {L : List (Option Nat)} (h1 : p ≠ some b) (h2 : b ≠ sg) (h3 : p ≠ some sg) (hL : ∀ x ∈ L, x = none) : PD ([some b, p, some sg] ++ L) := by
  have key : ∀ i k : Nat, ([some b, p, some sg] ++ L)[i]? = some (some k) → (i = 0 ∧ k = b) ∨ (i = 1 ∧ p = some k) ∨ (i = 2 ∧ k = sg) := by
    intro i k h
    match i, h with
    | 0, h => simp at h; exact Or.inl ⟨rfl, h.symm⟩
    | 1, h => simp at h; exact Or.inr (Or.inl ⟨rfl, h⟩)
    | 2, h => simp at h; exact Or.inr (Or.inr ⟨rfl, h.symm⟩)
    | i + 3, h =>
      have : (L)[i]? = some (some k) := by simpa using h
      have := hL _ (List.mem_of_getElem? this)
      simp at this
  intro i j k hi hj
  rcases key i k hi with ⟨a, e⟩ | ⟨a, e⟩ | ⟨a, e⟩ <;> rcases key j k hj with ⟨a', e'⟩ | ⟨a', e'⟩ | ⟨a', e'⟩
  · omega
  · exact absurd (e ▸ e') h1
  · omega
  · exact absurd (e' ▸ e) h1
  · omega
  · exact absurd (e' ▸ e) h3
  · omega
  · exact absurd (e ▸ e') h3
  · omega
abbrev S9 (u w w2 : World) (n : Nat) (cl cp cr ci : Int) (pat : ByteArray) (a : Option Addr) (m cc : Nat) (o : Bool) (win : Int) : Prop := u.cell? ⟨w.heap.size, 0, none⟩ = some (.int .i64 n) ∧ u.cell? ⟨w.heap.size, 1, none⟩ = some (.int .i64 cl) ∧ u.cell? ⟨w.heap.size, 2, none⟩ = some (.int .i64 cp) ∧ u.cell? ⟨w.heap.size, 3, none⟩ = some (.int .i64 cr) ∧ u.cell? ⟨w.heap.size, 4, none⟩ = some (.int .i64 ci) ∧ u.cell? ⟨w.heap.size, 5, none⟩ = some (.string pat) ∧ u.cell? ⟨w2.heap.size, 0, none⟩ = some (.slice a m cc) ∧ u.cell? ⟨w2.heap.size, 1, none⟩ = some (.bool o) ∧ u.cell? ⟨w2.heap.size, 2, none⟩ = some (.int .i64 win)
def zSrc : RSrc := ⟨false, 0, [], none, 0, [], none, 0, ByteArray.empty⟩
def newRef (c : Cfg) (n : Nat) (pa : Option Addr) (pc sg : Nat) : Ref :=
  { c := c, steps := patSteps c.pat.data.toList, pa := pa, pc := pc, one := patOne c.pat.data.toList, win := patWin c.pat.data.toList, srcs := List.replicate n zSrc, sg := sg, sc := n, all := [], aa := none, ac := 0, aside := [], da := none, dc := 0, merged := -2199023255552 }
theorem Tryz.infoSrc : (Tryz.prog.info? 100).map (fun i => (i.zero, i.size, i.bytes)) = some (some (.agg #[.bool false, .int .i64 0, .slice none 0 0, .slice none 0 0, .string ByteArray.empty]), 5, 80) := by kernel_rfl
theorem made_srcs (n : Nat) (h1 : 1 ≤ n) (h6 : n ≤ 6) : (madeCells (Value.agg #[.bool false, .int .i64 0, .slice none 0 0, .slice none 0 0, .string ByteArray.empty]).cells (n * 5)).toList = (List.replicate n zSrc).flatMap RSrc.vals := by
  have : n = 1 ∨ n = 2 ∨ n = 3 ∨ n = 4 ∨ n = 5 ∨ n = 6 := by omega
  rcases this with rfl | rfl | rfl | rfl | rfl | rfl
  · show _ = _; kernel_rfl
  · show _ = _; kernel_rfl
  · show _ = _; kernel_rfl
  · show _ = _; kernel_rfl
  · show _ = _; kernel_rfl
  · show _ = _; kernel_rfl

set_option maxRecDepth 100000 in
set_option maxHeartbeats 4000000 in
theorem rnew_ok (n : Nat) (c : Cfg) (w : World) (hn : c.sources = n) (hf : c.fits) (hl : c.pat.data.toList.length ≤ 60) (hp : wholeP c.pat.data.toList) :
    Calls Tryz.prog 11 #[c.agg] w fun e w' => ∃ b pa pc sg, e = .returned (.tuple #[.pointer (some ⟨b, 0, none⟩), .int .i64 0]) ∧ MemR w' b (newRef c n pa pc sg) ∧ (∀ k, some k ∈ (newRef c n pa pc sg).fp b → w.heap.size ≤ k) ∧ Below w.heap.size w w' := by
  obtain ⟨cs, cl, cp, cr, ci, pat⟩ := c
  simp only at hn hl hp
  subst hn
  have HP : Hid (wholeP pat.data.toList) := hp
  have hsz : pat.size ≤ 60 := by simpa using hl
  have HL : Hid (pat.data.toList.length ≤ 60 ∧ wholeP pat.data.toList) := ⟨hl, hp⟩
  have HD : Hid (decide (wholeP pat.data.toList) = true) := by show _ = _; simpa using hp
  obtain ⟨i0, hi0, hz0, hz1, hz2⟩ := info_parts Tryz.infoSrc
  obtain ⟨k0, k1, k2, k3, k4, k5, k6, k7, k8, k9⟩ := hf
  simp only at k0 k1 k2 k3 k4 k5 k6 k7 k8 k9
  clear hp hl
  unfold Cfg.agg
  have HB0 : Hid (Blk (w.alloc (.cells (Cfg.vals ⟨n, cl, cp, cr, ci, pat⟩).toArray 27)) w.heap.size 27 (Cfg.vals ⟨n, cl, cp, cr, ci, pat⟩)) := blk_alloc _ _ _
  have q5 : ∀ u : World, Below (w.alloc (.cells (Cfg.vals ⟨n, cl, cp, cr, ci, pat⟩).toArray 27)).heap.size (w.alloc (.cells (Cfg.vals ⟨n, cl, cp, cr, ci, pat⟩).toArray 27)) u → u.cell? ⟨w.heap.size, 5, none⟩ = some (.string pat) := fun u hu => (HB0.out.below hu (by simp)).cell 5
  have HQ5 := q5
  clear q5
  go_enter Tryz.func11, Tryz.ntmps11
  go_upto_region 9 with (first
    | (go_at_call 37; refine (rcheck_any pat _ (by unfold maxLen; omega)).mono ?_; rintro e w1 ⟨x, y, rfl, hc, hb1⟩; obtain rfl : x = 0 := (check_zero hc).2 HL.out; have c5 := HQ5 w1 hb1; have HB1 : Hid (Below (w.alloc (.cells (Cfg.vals ⟨n, cl, cp, cr, ci, pat⟩).toArray 27)).heap.size (w.alloc (.cells (Cfg.vals ⟨n, cl, cp, cr, ci, pat⟩).toArray 27)) w1) := hb1; clear hc hb1)
    | (go_at_call 38; refine (whole_any pat _ (by omega)).mono ?_; rintro e w2 ⟨a, m, cc, o, win, rfl, hb2, hwh⟩; rw [HD.out]; have HW : Hid (w2.ownsRow w1.heap.size 134 2 (.slice a m cc) m (flat (patSteps pat.data.toList)) ∧ m = (patSteps pat.data.toList).length ∧ o = patOne pat.data.toList ∧ win = patWin pat.data.toList) := hwh HP.out; have HB2 : Hid (Below w1.heap.size w1 w2) := hb2; clear hwh hb2))
  have HZ2 : Hid (Blk w2 w.heap.size 27 (Cfg.vals ⟨n, cl, cp, cr, ci, pat⟩)) := (HB0.out.below HB1.out (by simp)).below HB2.out (by have := HB1.out.size; simp at this; omega)
  have hs2 : w.heap.size + 1 ≤ w1.heap.size := by have := HB1.out.size; simpa using this
  have hs3 : w1.heap.size ≤ w2.heap.size := HB2.out.size
  have HBw : Hid (Below w.heap.size w w2) := (((Below.refl _ w).alloc (Nat.le_refl _) _).trans (HB1.out.mono (by simp))).trans (HB2.out.mono (by omega))
  obtain ⟨w3, HW3⟩ := hex (w2.alloc (.cells #[.slice a m cc, .bool o, .int .i64 win] 55))
  have HZ3 : Hid (Blk w3 w.heap.size 27 (Cfg.vals ⟨n, cl, cp, cr, ci, pat⟩)) := by show Blk _ _ _ _; rw [HW3.out]; exact HZ2.out.alloc _
  have HP3 : Hid (Blk w3 w2.heap.size 55 [.slice a m cc, .bool o, .int .i64 win]) := by show Blk _ _ _ _; rw [HW3.out]; exact blk_alloc _ _ _
  have HO3 : Hid (w3.ownsRow w1.heap.size 134 2 (.slice a m cc) m (flat (patSteps pat.data.toList))) := by show World.ownsRow _ _ _ _ _ _ _; rw [HW3.out]; exact HW.out.1.alloc _
  have HBw3 : Hid (Below w.heap.size w w3) := by show Below _ _ _; rw [HW3.out]; exact HBw.out.alloc HBw.out.size _
  have hs4 : w2.heap.size < w3.heap.size := by rw [HW3.out]; simp
  have hw3 := HW3.out.symm
  rw [hw3]
  clear hw3 HW3 c5 HQ5
  have hmk := run_makeSlice_full (P := Tryz.prog) w3.drew 0 56 100 i0 _ 5 Tryz.underlying56 hi0 hz0 hz1 .i64 .i64 n (by omega) (by rw [hz2]; omega) (by unfold maxLen; omega) (Nat.zero_le _)
  obtain ⟨wm, hrun, hownm, hgm⟩ := hmk
  rw [made_srcs n (by omega) (by omega)] at hownm
  have z0 := HZ3.out.cell 0
  have z1 := HZ3.out.cell 1
  have z2 := HZ3.out.cell 2
  have z3' := HZ3.out.cell 3
  have z4 := HZ3.out.cell 4
  have z5' := HZ3.out.cell 5
  have p0 := HP3.out.cell 0
  have p1 := HP3.out.cell 1
  have p2 := HP3.out.cell 2
  simp only [Cfg.vals, List.getElem?_cons_zero, List.getElem?_cons_succ] at z0 z1 z2 z3' z4 z5' p0 p1 p2
  have HM : Hid (∀ bb v, bb < w3.heap.size → w3.cell? ⟨bb, v, none⟩ = wm.cell? ⟨bb, v, none⟩) := fun bb v hb => (World.cell?_of_block (w := w3) (w' := wm) (a := ⟨bb, v, none⟩) (hgm.block bb hb (by simp))).symm
  refine upTo_region (fun u => u.cell? ⟨w.heap.size, 0, none⟩ = some (.int .i64 n) ∧ u.cell? ⟨w.heap.size, 1, none⟩ = some (.int .i64 cl) ∧ u.cell? ⟨w.heap.size, 2, none⟩ = some (.int .i64 cp) ∧ u.cell? ⟨w.heap.size, 3, none⟩ = some (.int .i64 cr) ∧ u.cell? ⟨w.heap.size, 4, none⟩ = some (.int .i64 ci) ∧ u.cell? ⟨w.heap.size, 5, none⟩ = some (.string pat) ∧ u.cell? ⟨w2.heap.size, 0, none⟩ = some (.slice a m cc) ∧ u.cell? ⟨w2.heap.size, 1, none⟩ = some (.bool o) ∧ u.cell? ⟨w2.heap.size, 2, none⟩ = some (.int .i64 win)) 8 9 rfl (by kernel_rfl) ?_
  have hS0 : (fun u : World => u.cell? ⟨w.heap.size, 0, none⟩ = some (.int .i64 n) ∧ u.cell? ⟨w.heap.size, 1, none⟩ = some (.int .i64 cl) ∧ u.cell? ⟨w.heap.size, 2, none⟩ = some (.int .i64 cp) ∧ u.cell? ⟨w.heap.size, 3, none⟩ = some (.int .i64 cr) ∧ u.cell? ⟨w.heap.size, 4, none⟩ = some (.int .i64 ci) ∧ u.cell? ⟨w.heap.size, 5, none⟩ = some (.string pat) ∧ u.cell? ⟨w2.heap.size, 0, none⟩ = some (.slice a m cc) ∧ u.cell? ⟨w2.heap.size, 1, none⟩ = some (.bool o) ∧ u.cell? ⟨w2.heap.size, 2, none⟩ = some (.int .i64 win)) w3.drew := ⟨z0, z1, z2, z3', z4, z5', p0, p1, p2⟩
  refine upTo_tk (i := 0) (v := ?v11_0) rfl (by kernel_rfl) (fun _ _ _ h => h) (by rfl) hS0 ?h11_0 ?r11_0
  case h11_0 => (intro u hu; (try dsimp only at hu); go_simp; first | done | with_reducible rfl)
  (try simp only [Act.put, tkS])
  refine upTo_tk (i := 1) (v := ?v11_1) rfl (by kernel_rfl) (fun _ _ _ h => h) (by rfl) hS0 ?h11_1 ?r11_1
  case h11_1 => (intro u hu; (try dsimp only at hu); go_simp; first | done | with_reducible rfl)
  (try simp only [Act.put, tkS])
  refine upTo_tk (i := 2) (v := ?v11_2) rfl (by kernel_rfl) (fun _ _ _ h => h) (by rfl) hS0 ?h11_2 ?r11_2
  case h11_2 => (intro u hu; (try dsimp only at hu); go_simp; first | done | with_reducible rfl)
  (try simp only [Act.put, tkS])
  refine upTo_tk (i := 3) (v := ?v11_3) rfl (by kernel_rfl) (fun _ _ _ h => h) (by rfl) hS0 ?h11_3 ?r11_3
  case h11_3 => (intro u hu; (try dsimp only at hu); go_simp; first | done | with_reducible rfl)
  (try simp only [Act.put, tkS])
  refine upTo_one (i := 4) (by kernel_rfl) rfl (fun K hK => ?_)
  go_simp
  have hlw : w.heap.size < w3.heap.size := by omega
  have hl2 : w2.heap.size < w3.heap.size := by omega
  have hM1 : ∀ k v, w3.cell? ⟨w.heap.size, k, none⟩ = some v → wm.cell? ⟨w.heap.size, k, none⟩ = some v := fun k v h => (HM.out _ _ hlw).symm.trans h
  have hM2 : ∀ k v, w3.cell? ⟨w2.heap.size, k, none⟩ = some v → wm.cell? ⟨w2.heap.size, k, none⟩ = some v := fun k v h => (HM.out _ _ hl2).symm.trans h
  have hsm : w3.heap.size < wm.heap.size := (hownm.lt w3.heap.size rfl).2
  have hA1 : ∀ oo k v, w3.cell? ⟨w.heap.size, k, none⟩ = some v → (wm.alloc oo).cell? ⟨w.heap.size, k, none⟩ = some v := fun oo k v h => (World.cell?_alloc_past _ _ _ (by show w.heap.size < wm.heap.size; omega)).trans (hM1 k v h)
  have hA2 : ∀ oo k v, w3.cell? ⟨w2.heap.size, k, none⟩ = some v → (wm.alloc oo).cell? ⟨w2.heap.size, k, none⟩ = some v := fun oo k v h => (World.cell?_alloc_past _ _ _ (by show w2.heap.size < wm.heap.size; omega)).trans (hM2 k v h)
  have HS1 : Hid (S9 wm w w2 n cl cp cr ci pat a m cc o win) := ⟨hM1 _ _ z0, hM1 _ _ z1, hM1 _ _ z2, hM1 _ _ z3', hM1 _ _ z4, hM1 _ _ z5', hM2 _ _ p0, hM2 _ _ p1, hM2 _ _ p2⟩
  have HS2 : Hid (∀ oo, S9 (wm.alloc oo) w w2 n cl cp cr ci pat a m cc o win) := fun oo => ⟨hA1 _ _ _ z0, hA1 _ _ _ z1, hA1 _ _ _ z2, hA1 _ _ _ z3', hA1 _ _ _ z4, hA1 _ _ _ z5', hA2 _ _ _ p0, hA2 _ _ _ p1, hA2 _ _ _ p2⟩
  clear hA1 hA2 hM1 hM2
  refine hK.out _ _ (fun _ => HS1.out) ?_
  clear hK K hS0
  (try simp only [Act.put, tkS])
  refine upTo_one (i := 5) (by kernel_rfl) rfl (fun K hK => ?_)
  go_simp
  refine hK.out _ _ (fun _ => HS1.out) ?_
  clear hK K
  (try simp only [Act.put, tkS])
  refine upTo_one (i := 6) (by kernel_rfl) rfl (fun K hK => ?_)
  go_simp
  refine hK.out _ _ (fun _ => HS2.out _) ?_
  clear hK K
  (try simp only [Act.put, tkS])
  refine upTo_one (i := 7) (by kernel_rfl) rfl (fun K hK => ?_)
  go_simp
  refine hK.out _ _ (fun _ => HS2.out _) ?_
  clear hK K
  (try simp only [Act.put, tkS])
  refine upTo_one (i := 8) (by kernel_rfl) rfl (fun K hK => ?_)
  go_simp
  refine hK.out _ _ (fun h => absurd rfl h) ?_
  clear hK K
  (try simp only [Act.put, tkS])
  refine upTo_done (by kernel_rfl) ?_
  clear z0 z1 z2 z3' z4 z5' p0 p1 p2 hrun
  go_wp2
  go_ret2
  obtain ⟨hW1, hW2, hW3, hW4⟩ := HW.out
  subst hW3
  subst hW4
  have hBm : Below w.heap.size w wm := (HBw3.out.drew).grown hgm (by show _ ≤ w3.heap.size; omega) (fun k e => by simp at e)
  have hst : wm.ownsRow w1.heap.size 134 2 (.slice a m cc) m (flat (patSteps pat.data.toList)) := World.ownsRow.kept (show w3.drew.ownsRow _ _ _ _ _ _ from HO3.out) hgm (by
    cases hx : (Value.slice a m cc).ownBlock with
    | none => exact Or.inl rfl
    | some z => exact Or.inr (by simp))
  have hpa : ∀ k, bk a = some k → w1.heap.size ≤ k ∧ k < w3.heap.size := fun k e => by
    have h1 := HO3.out.lt k (by rw [bk_own]; exact e)
    exact h1
  subst hW2
  refine ⟨wm.heap.size, a, cc, w3.heap.size, by simp, ⟨?_, ?_, ?_, ?_, ?_, ?_, ?_, ?_⟩, ?_, ?_⟩
  · have e : Ref.vals (newRef ⟨n, cl, cp, cr, ci, pat⟩ n a cc w3.heap.size) = [.int .i64 n, .int .i64 cl, .int .i64 cp, .int .i64 cr, .int .i64 ci, .string pat, .slice a (patSteps pat.data.toList).length cc, .bool (patOne pat.data.toList), .int .i64 (patWin pat.data.toList), .slice (some ⟨w3.heap.size, 0, none⟩) n n, .slice none 0 0, .slice none 0 0, .int .i64 (-2199023255552)] := by simp [Ref.vals, newRef, Cfg.vals]
    rw [e]
    exact blk_alloc _ _ _
  · exact toRow (hst.alloc _)
  · show Row _ _ _ _ (List.replicate n zSrc).length _ _
    rw [List.length_replicate]
    exact toRow (hownm.alloc _)
  · exact Row.nil _ _ _
  · exact Row.nil _ _ _
  · intro i r hr
    have : r = zSrc := (List.mem_replicate.1 (List.mem_of_getElem? hr)).2
    subst this
    exact Row.nil _ _ _
  · intro i r hr
    have : r = zSrc := (List.mem_replicate.1 (List.mem_of_getElem? hr)).2
    subst this
    exact Row.nil _ _ _
  · refine pd3 (b := wm.heap.size) (sg := w3.heap.size) (p := bk a) (fun e => by have := hpa _ e; omega) (by omega) (fun e => by have := hpa _ e; omega) (L := [none, none] ++ (List.replicate n zSrc).flatMap (fun r => [bk r.ma, bk r.qa])) ?_
    intro x hx
    simp only [List.cons_append, List.nil_append, List.mem_cons, List.mem_flatMap, List.mem_replicate] at hx
    rcases hx with h | h | ⟨r, ⟨_, rfl⟩, h⟩
    · exact h
    · exact h
    · simpa [zSrc, bk] using h
  · intro k hk
    rcases fp_mem hk with e | e | e | e | e | ⟨i, hi, e | e⟩
    · omega
    · have := hpa k e; omega
    · have : k = w3.heap.size := e; omega
    · simp [newRef, bk] at e
    · simp [newRef, bk] at e
    · simp [newRef, zSrc, bk] at e
    · simp [newRef, zSrc, bk] at e
  · exact hBm.alloc hBm.size _
end Go.Proofs.YtghcololkgeoeabGreat
