import Derived.Test.YtghcololkgeoeabGreatPartF7
import Derived.JoinedCond
import Derived.Deep.CondSized
import Derived.SizedLaws
import Derived.ProofKit
import Derived.OpenShut
import Derived.ShutString
import Derived.ChangeOld
import Derived.Below
namespace Go.Proofs.YtghcololkgeoeabGreat
open Go.ChangeShapes Go.WideShapes Go.ChangeAt Go.RowKit
set_option linter.unusedVariables false
set_option linter.unusedSimpArgs false
attribute [local go_sem ↓] Go.wp_at_zero Go.wp_at_succ

set_option maxRecDepth 100000 in
set_option maxHeartbeats 2000000 in
theorem all_walk (c : Cfg) (hs : c.pat.size ≤ maxLen) (sa : Option Addr) (sc : Nat) (ops : List OpR) (w : World) (hsc : Script w sa ops) (hlen : ops.length ≤ 20000000) :
    Calls Tryz.prog 4 #[c.agg, .slice sa ops.length sc] w fun e w' => e = .returned (.bool true) ∧ Below w.heap.size w w' := by
  obtain ⟨p, HP⟩ := hex ((w.alloc (.cells c.vals.toArray 27)).alloc (.cells (ints [1, 2, 3, 4, 5, 6, 11]).toArray 3))
  have HB : Hid (Below w.heap.size w p) := by show Below _ _ _; rw [HP.out]; exact ((Below.refl _ _).alloc (Nat.le_refl _) _).alloc (by simp) _
  have HR : Hid (Row p 3 1 (some ⟨w.heap.size + 1, 0, none⟩) ([1, 2, 3, 4, 5, 6, 11] : List Int).length 7 (ints [1, 2, 3, 4, 5, 6, 11])) := by
    show Row _ _ _ _ _ _ _
    rw [HP.out]
    have := World.ownsRow_lit (base := 0) (e := 3) (size := 1) (w.alloc (.cells c.vals.toArray 27)) (ints [1, 2, 3, 4, 5, 6, 11]).toArray 7 (Nat.zero_le _) (by unfold maxLen; omega) (by simp [ints])
    simpa [ints] using this
  have HS : Hid (Script p sa ops) := by
    intro i hi
    obtain ⟨b, off, h1, h2⟩ := hsc i hi
    refine ⟨b, off, h1, fun o ho => ?_⟩
    have h3 := h2 o ho
    obtain ⟨v, hv⟩ : ∃ v, ops[i].cells[o]? = some v := ⟨_, List.getElem?_eq_getElem (show o < ops[i].cells.length from ho)⟩
    rw [hv] at h3 ⊢
    exact (HB.out.cell (p := ⟨b, off + i * 8 + o, none⟩) (World.block_lt_of_cell? w _ h3)).trans h3
  have HW : Hid (Calls Tryz.prog 8 #[.agg #[.int .i64 c.sources, .int .i64 c.slack, .int .i64 c.policy, .int .i64 c.room, .int .i64 c.idle, .string c.pat], .slice sa ops.length sc, .slice (some ⟨w.heap.size + 1, 0, none⟩) 7 7] p fun e w' => e = .returned (.bool true) ∧ Below p.heap.size p w') := plays7_walk c hs sa sc ops (some ⟨w.heap.size + 1, 0, none⟩) 7 [1, 2, 3, 4, 5, 6, 11] p HS.out HR.out (by intro k hk; simp at hk; omega) (by simp) hlen
  have hp : (w.alloc (.cells #[.int .i64 c.sources, .int .i64 c.slack, .int .i64 c.policy, .int .i64 c.room, .int .i64 c.idle, .string c.pat] 27)).alloc (.cells #[.int .i64 1, .int .i64 2, .int .i64 3, .int .i64 4, .int .i64 5, .int .i64 6, .int .i64 11] 3) = p := HP.out.symm
  clear HP
  unfold Cfg.agg
  go_enter Tryz.func4, Tryz.ntmps4
  go_wp2_with (go_at_call 8; refine HW.out.mono ?_; rintro e w2 ⟨rfl, hb2⟩)
  go_ret
  exact ⟨rfl, HB.out.trans (hb2.mono HB.out.size)⟩
theorem bulk_one {H : Type} (d : DataW H) : 1 ≤ Rows.uptoBulk d := by
  cases d with
  | lit l => cases l <;> simp [Rows.uptoBulk]
  | nil => simp [Rows.uptoBulk]
  | ptr d => simp [Rows.uptoBulk]
  | slice elems spare => simp [Rows.uptoBulk]
  | agg parts => simp [Rows.uptoBulk]
  | iface t d => simp [Rows.uptoBulk]
  | map entries => simp [Rows.uptoBulk]
  | held h => simp [Rows.uptoBulk]
theorem bulk_len {H : Type} (l : List (DataW H)) : l.length ≤ Rows.uptoBulkAll l := by
  induction l with
  | nil => simp [Rows.uptoBulkAll]
  | cons x r ih => have := bulk_one x; simp only [Rows.uptoBulkAll, List.length_cons]; omega
theorem bulk_script {H : Type} {d0 : DataW H} {elems spare : List (DataW H)} (hk : Rows.uptoSmall H [d0, .slice elems spare] = true) : elems.length + spare.length ≤ 20000000 := by
  have h : Rows.uptoBulkAll [d0, .slice elems spare] ≤ 1048576 := of_decide_eq_true hk
  simp only [Rows.uptoBulkAll, Rows.uptoBulk] at h
  have h1 := bulk_len elems
  have h2 := bulk_len spare
  omega
set_option maxRecDepth 100000 in
theorem all_lifted (os : Os) (started : os.Started) (H : Type) (enc : TypeId × Value → H) (F : Stop.Interp) :
    ReturnsInHanded {} Tryz.checked os 4 .any ((Rows.OpenSpec.upto Rows.allSpec).pre6 enc Tryz.prog Tryz.f4 Rows.allUptoRow.domain false) (((Rows.OpenSpec.upto Rows.allSpec).at F).post enc Tryz.prog Tryz.f4 false true false false) := by
  refine returnsInHanded_of_cond_sized (C := Tryz.checked) (s := Rows.OpenSpec.upto Rows.allSpec) (k := Rows.uptoSmall) rfl ownS started (by kernel_rfl) Tryz.func4
    (OpenSpec.witness (enc := enc) (C := Tryz.checked) (s := Rows.OpenSpec.upto Rows.allSpec) (k := Rows.uptoSmall) rfl false ⟨#[], #[.agg #[.int .i64 0, .int .i64 0, .int .i64 0, .int .i64 0, .int .i64 0, .string ByteArray.empty], .slice none 0 0], []⟩ 8 (by kernel_rfl) (by kernel_rfl) (by kernel_rfl)
      (x := ([.agg [.lit (.int .i64 0), .lit (.int .i64 0), .lit (.int .i64 0), .lit (.int .i64 0), .lit (.int .i64 0), .lit (.string [])], .nil], [], [])) (by kernel_rfl) rfl (by kernel_rfl)) ?_
  intro W base args ds gs before hval0 hW hcnd hk hsized hbig
  have hval : ∀ (j : Nat) t v, Tryz.f4.params[j]? = some t → args[j]? = some v → Value.okWide Tryz.prog W .any base t v := hval0
  have hW' := hW
  obtain ⟨p, q, hA0, hV, rfl, hfz, hnd⟩ := hW
  have hA : DataW.TrodAll enc Tryz.prog W 0 (fun _ => true) true Tryz.f4.params.toList args.toList ds p := hA0
  rw [Tryz.params4] at hA hval
  obtain ⟨v0, vs0, d0, ds0, p0, q0, hargs, rfl, rfl, h0, r0⟩ := trodAll_cons hA
  obtain ⟨v1, vs1, d1, ds1, p1, q1, hargs1, rfl, rfl, h1, r1⟩ := trodAll_cons r0
  obtain ⟨rfl, rfl, rfl⟩ := trodAll_nil r1
  subst hargs1
  obtain rfl : args = #[v0, v1] := by cases args; simp_all
  obtain ⟨rfl, rfl⟩ := trodVars_none hV
  obtain ⟨c, rfl, hs⟩ := open_cfg (hval 0 27 v0 rfl rfl) h0
  obtain ⟨sa, sc, ops, rfl, hsc, hlen⟩ := open_script (hval 1 34 v1 rfl rfl) h1 20000000 (fun elems spare hd => by subst hd; exact bulk_script hk)
  have hts : ∀ t ∈ Tryz.f4.params.toList, t < Tryz.prog.types.size := by
    rw [Tryz.params4]
    intro t ht
    have ht : t ∈ [27, 34] := ht
    simp only [List.mem_cons, List.not_mem_nil, or_false] at ht
    rw [sizeN]
    rcases ht with rfl | rfl <;> decide
  refine (all_walk c hs sa sc ops W hsc hlen).mono fun e W' ⟨he, bel⟩ => ?_
  subst he
  exact ⟨_, rfl, _, _, _, [], _, [], hW', trodAll_mk1 (shut_bool Tryz.underlying4 _), trodAll_again kidsN fullN bel hts hA0, rfl, bel.frame _, fun h => by cases h⟩

theorem all_holds : Rows.AllUptoSaid :=
  OpenClaim.holds_of_cond 4 Tryz.f4 rfl rfl rfl rfl rfl rfl rfl ⟨rfl, rfl, rfl, rfl, rfl⟩ rfl rfl rfl rfl rfl (by kernel_rfl) Tryz.func4 (by kernel_rfl)
    (of_decide_eq_true (by kernel_rfl)) (by unfold Func.isWrapper; first | (rw [if_pos (by decide +kernel)]; kernel_rfl) | (rw [if_neg (by decide +kernel)]; exact ⟨rfl, rfl⟩))
    (fun os started H enc _ F => all_lifted os started H enc F)
#print axioms all_holds
end Go.Proofs.YtghcololkgeoeabGreat
