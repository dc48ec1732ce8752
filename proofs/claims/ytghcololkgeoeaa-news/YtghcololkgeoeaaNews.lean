import Derived.Test.YtghcololkgeoeaaPartD2
import Derived.Test.YtghcololkgeoeaaPartD4
import Derived.ProofKit
import Derived.OpenShut
import Derived.ShutString
import Derived.ChangeOld
import Derived.Below
namespace Go.Proofs.Ytghcololkgeoeaa
open Go.ChangeShapes Go.WideShapes Go.ChangeAt Go.RowKit
set_option linter.unusedVariables false
set_option linter.unusedSimpArgs false
attribute [local go_sem ↓] Go.wp_at_zero Go.wp_at_succ

theorem ownN : ownKnob Try.prog.godebug = none := by kernel_rfl
def zEv : Ev := ⟨0, 0, 0, 0, 0⟩
set_option maxRecDepth 100000 in
set_option maxHeartbeats 4000000 in
theorem news_walk (c : Cfg) (hs : c.pat.size ≤ maxLen) (w : World) :
    Calls Try.prog 4 #[c.agg] w fun e w' => e = .returned (.bool true) ∧ Below w.heap.size w w' := by
  have HB0 : Hid (Below w.heap.size w (w.alloc (.cells c.vals.toArray 30))) := (Below.refl _ _).alloc (Nat.le_refl _) _
  by_cases hok : c.ok
  · have HOK : Hid c.ok := hok
    clear hok
    have hbg : ∀ w', Below w.heap.size w w' → Calls Try.prog 8 #[.agg #[.int .i64 c.sources, .int .i64 c.slack, .int .i64 c.policy, .int .i64 c.room, .int .i64 c.idle, .string c.pat]] w' fun e w2 => ∃ wb xb rb X R, e = .returned (.tuple #[.pointer (some ⟨wb, 0, none⟩), .bool true]) ∧ PInv w w2 wb xb rb X R none 0 [] ∧ Both 0 X R := fun w' h => begun_p c w w' h HOK.out
    unfold Cfg.agg
    go_enter Try.func4, Try.ntmps4
    go_upto_region 4 with (go_at_call 8; refine (hbg _ HB0.out).mono ?_; rintro e w2 ⟨wb, xb, rb, X, R, rfl, hP, hBo⟩)
    have HP : Hid (PInv w w2 wb xb rb X R none 0 []) := hP
    have HBo : Hid (Both 0 X R) := hBo
    clear hP hBo hbg
    go_wp2
    go_loopw [4, 5] (fun _ s wr => ∃ k : Nat, k ≤ 8 ∧ s = .int .i64 ((k : Int) - 1) ∧ PInv w wr wb xb rb X R none 0 []) (fun _ s _ => (7 - intOf s).toNat)
    case atStart => exact ⟨0, by omega, by go_num, HP.out⟩
    case round =>
      obtain ⟨k, hk, rfl, hPk⟩ := hrel
      have HPk : Hid (PInv w wr wb xb rb X R none 0 []) := hPk
      clear hPk
      by_cases hlt : k < 8
      · have hl' : (k : Int) - 1 ≤ 6 := by omega
        have hask : Calls Try.prog 9 #[.pointer (some ⟨wb, 0, none⟩), .agg #[.int .i64 8, .int .i64 ((k : Int) - 1), .int .i64 0, .int .i64 0, .int .i64 0, .int .i64 0, .int .i64 0, .string ByteArray.empty]] wr fun e w' => e = .returned (.bool true) ∧ Below wr.heap.size wr w' := asks_source wb xb rb X R none 0 [] _ zEv _ wr HPk.out.inv HBo.out.sane HBo.out.all (tell_same HBo.out.sim _)
        go_wp2_with (go_at_call 9; refine hask.mono ?_; rintro e w3 ⟨rfl, hb3⟩)
        go_roundw
        case rel => exact ⟨k + 1, by omega, by go_num, HPk.out.below hb3⟩
        case measure => simp [intOf]; omega
      · obtain rfl : k = 8 := by omega
        have h1 : Hid (Calls Try.prog 9 #[.pointer (some ⟨wb, 0, none⟩), .agg #[.int .i64 7, .int .i64 0, .int .i64 0, .int .i64 0, .int .i64 0, .int .i64 0, .int .i64 0, .string ByteArray.empty]] wr fun e w' => e = .returned (.bool true) ∧ ∃ a' c' l', l'.length ≤ ([] : List El).length + 1 ∧ PInv w w' wb xb rb X R a' c' l') := asks_any 7 0 zEv ByteArray.empty 0 w wr wb xb rb X R none 0 [] HPk.out HBo.out (by simp) (by omega)
        go_upto_region 11 with (go_at_call 9; refine h1.out.mono ?_; rintro e w3 ⟨rfl, a1, c1, l1, hl1, hP1⟩)
        have HP1 : Hid (PInv w w3 wb xb rb X R a1 c1 l1) := hP1
        have hl1' : l1.length ≤ 1 := by simpa using hl1
        clear hP1 h1 hl1
        have h2 : Hid (Calls Try.prog 9 #[.pointer (some ⟨wb, 0, none⟩), .agg #[.int .i64 9, .int .i64 0, .int .i64 0, .int .i64 0, .int .i64 0, .int .i64 0, .int .i64 0, .string ByteArray.empty]] w3 fun e w' => e = .returned (.bool true) ∧ ∃ a' c' l', l'.length ≤ l1.length + 1 ∧ PInv w w' wb xb rb X R a' c' l') := asks_any 9 0 zEv ByteArray.empty 0 w w3 wb xb rb X R a1 c1 l1 HP1.out HBo.out (by omega) (by omega)
        go_upto_region 12 with (go_at_call 9; refine h2.out.mono ?_; rintro e w4 ⟨rfl, a2, c2, l2, hl2, hP2⟩)
        have HP2 : Hid (PInv w w4 wb xb rb X R a2 c2 l2) := hP2
        clear hP2 h2
        have h3 : Hid (Calls Try.prog 9 #[.pointer (some ⟨wb, 0, none⟩), .agg #[.int .i64 10, .int .i64 0, .int .i64 0, .int .i64 0, .int .i64 0, .int .i64 0, .int .i64 0, .string ByteArray.empty]] w4 fun e w' => e = .returned (.bool true) ∧ ∃ a' c' l', l'.length ≤ l2.length + 1 ∧ PInv w w' wb xb rb X R a' c' l') := asks_any 10 0 zEv ByteArray.empty 0 w w4 wb xb rb X R a2 c2 l2 HP2.out HBo.out (by omega) (by omega)
        go_wp2_with (go_at_call 9; refine h3.out.mono ?_; rintro e w5 ⟨rfl, a3, c3, l3, hl3, hP3⟩)
        go_ret
        exact ⟨rfl, hP3.bel⟩
  · have hbg : ∀ w', Calls Try.prog 8 #[.agg #[.int .i64 c.sources, .int .i64 c.slack, .int .i64 c.policy, .int .i64 c.room, .int .i64 c.idle, .string c.pat]] w' fun e w2 => e = .returned (.tuple #[.pointer none, .bool true]) ∧ Below w'.heap.size w' w2 := fun w' => begun_bad c w' hs hok
    clear hok
    unfold Cfg.agg
    go_enter Try.func4, Try.ntmps4
    go_wp2_with (go_at_call 8; refine (hbg _).mono ?_; rintro e w2 ⟨rfl, hb2⟩)
    go_ret
    exact ⟨rfl, HB0.out.trans (hb2.mono (by simp))⟩

theorem six {α : Type} {l : List α} (h : l.length = 6) : ∃ a b c d e f, l = [a, b, c, d, e, f] := by
  rcases l with _ | ⟨a, _ | ⟨b, _ | ⟨c, _ | ⟨d, _ | ⟨e, _ | ⟨f, _ | ⟨g, l⟩⟩⟩⟩⟩⟩⟩
  · simp at h
  · simp at h
  · simp at h
  · simp at h
  · simp at h
  · simp at h
  · exact ⟨a, b, c, d, e, f, rfl⟩
  · simp at h
/-- the types of this program -/
theorem kidsN : Kids Try.prog (· < Try.prog.types.size) := kids_rows (by kernel_rfl) (by kernel_rfl)
theorem fullN : ∀ t e, t < Try.prog.types.size → Try.prog.underlying t = some (.slice e) → 0 < Try.prog.cellsOf e := slices_full_of Try.prog (by kernel_rfl)
theorem sizeN : Try.prog.types.size = 146 := by kernel_rfl
set_option maxRecDepth 100000 in
/-- a configuration that came in -/
theorem open_cfg {H : Type} {enc : TypeId × Value → H} {W : World} {sp : Nat → Bool} {hd : Bool} {base0 base : Nat} {r : Reach} {v : Value} {d : DataW H} {p : List MemPlace} (hval : Value.okWide Try.prog W r base0 30 v)
    (h : DataW.Trod enc Try.prog W base sp hd 30 v d p) : ∃ c : Cfg, v = c.agg ∧ c.pat.size ≤ maxLen := by
  obtain ⟨cs, rfl, hsz⟩ := okWide_struct Try.underlying30 hval
  obtain ⟨fuel, h⟩ := h
  obtain ⟨xs, n, rfl, hx, hlen, hxl, hf⟩ := DataW.trod_struct Try.underlying30 h
  have hc6 : Try.prog.cellsOf 30 = 6 := by kernel_rfl
  have hci : Try.prog.cellsOf 3 = 1 := by kernel_rfl
  have hcs : Try.prog.cellsOf 9 = 1 := by kernel_rfl
  have hl6 : cs.toList.length = 6 := by simpa [hc6] using hsz
  obtain ⟨v0, v1, v2, v3, v4, v5, hcl⟩ := six hl6
  have hcells : (Value.agg cs).cells.toList = [v0, v1, v2, v3, v4, v5] := by rw [← hcl]; rfl
  rw [hcells] at hf
  have key : ∀ i (f : Field), _ → _ := fun i f => hf i f
  have hxs : ∀ i, i < 6 → ∃ y, xs[i]? = some y := by
    intro i hi
    have : i < xs.length := by rw [hxl]; exact hi
    exact ⟨xs[i], List.getElem?_eq_getElem this⟩
  obtain ⟨y0, h0⟩ := hxs 0 (by omega)
  obtain ⟨y1, h1⟩ := hxs 1 (by omega)
  obtain ⟨y2, h2⟩ := hxs 2 (by omega)
  obtain ⟨y3, h3⟩ := hxs 3 (by omega)
  obtain ⟨y4, h4⟩ := hxs 4 (by omega)
  obtain ⟨y5, h5⟩ := hxs 5 (by omega)
  have k0 := hf 0 _ rfl
  have k1 := hf 1 _ rfl
  have k2 := hf 2 _ rfl
  have k3 := hf 3 _ rfl
  have k4 := hf 4 _ rfl
  have k5 := hf 5 _ rfl
  rw [h0] at k0
  rw [h1] at k1
  rw [h2] at k2
  rw [h3] at k3
  rw [h4] at k4
  rw [h5] at k5
  simp only [List.getElem_toArray, List.getElem_cons_zero, List.getElem_cons_succ, hci, hcs, List.drop_zero, List.drop_succ_cons, List.take_succ_cons, List.take_zero] at k0 k1 k2 k3 k4 k5
  obtain ⟨m0, e0⟩ := trod_int1 Try.underlying3 k0
  obtain ⟨m1, e1⟩ := trod_int1 Try.underlying3 k1
  obtain ⟨m2, e2⟩ := trod_int1 Try.underlying3 k2
  obtain ⟨m3, e3⟩ := trod_int1 Try.underlying3 k3
  obtain ⟨m4, e4⟩ := trod_int1 Try.underlying3 k4
  obtain ⟨s, e5, hs⟩ := trod_str1 Try.underlying9 k5
  simp only [List.cons.injEq, and_true] at e0 e1 e2 e3 e4 e5
  subst e0 e1 e2 e3 e4 e5
  refine ⟨⟨m0, m1, m2, m3, m4, s⟩, ?_, hs⟩
  unfold Cfg.agg
  congr 1
  apply Array.toList_inj.1
  rw [hcl]
set_option maxRecDepth 100000 in
theorem news_lifted (os : Os) (started : os.Started) (H : Type) (enc : TypeId × Value → H) :
    ReturnsInHanded {} Try.checked os 4 .any (Rows.newsSpec.pre6 enc Try.prog Try.f4 Rows.newsRow.domain false) (Rows.newsSpec.post enc Try.prog Try.f4 false true false false) := by
  refine returnsInHanded_of_change (C := Try.checked) ownN started (by kernel_rfl) Try.func4
    (ChangeSpec.witness6 (enc := enc) (C := Try.checked) false ⟨#[], #[.agg #[.int .i64 0, .int .i64 0, .int .i64 0, .int .i64 0, .int .i64 0, .string ByteArray.empty]], []⟩ 8 (by kernel_rfl) (by kernel_rfl) (by kernel_rfl) (by kernel_rfl)) ?_
  intro W base args ds gs before hval0 hW hcnd _
  have hval : ∀ (j : Nat) t v, Try.f4.params[j]? = some t → args[j]? = some v → Value.okWide Try.prog W .any base t v := hval0
  have hW' := hW
  obtain ⟨p, q, hA0, hV, rfl, hfz, hnd⟩ := hW
  have hA : DataW.TrodAll enc Try.prog W 0 (fun _ => true) true Try.f4.params.toList args.toList ds p := hA0
  rw [Try.params4] at hA hval
  have hA1 := hA
  obtain ⟨v0, vs0, d0, ds0, p0, q0, hargs, rfl, rfl, h0, r0⟩ := trodAll_cons hA
  obtain ⟨rfl, rfl, rfl⟩ := trodAll_nil r0
  obtain rfl : args = #[v0] := by cases args; simp_all
  obtain ⟨rfl, rfl⟩ := trodVars_none hV
  obtain ⟨c, rfl, hs⟩ := open_cfg (hval 0 30 v0 rfl rfl) h0
  have hts : ∀ t ∈ Try.f4.params.toList, t < Try.prog.types.size := by
    rw [Try.params4]
    intro t ht
    have ht : t ∈ [30] := ht
    rw [List.mem_singleton] at ht
    subst ht
    rw [sizeN]; decide
  refine (news_walk c hs W).mono fun e W' ⟨he, bel⟩ => ?_
  subst he
  exact ⟨_, rfl, _, _, _, [], _, [], hW', trodAll_mk1 (shut_bool Try.underlying4 _), trodAll_again kidsN fullN bel hts hA0, rfl, bel.frame _, fun h => by cases h⟩

theorem news_over : Rows.newsRow.holds Try.pinned (OpenSpec.ofChange Rows.newsSpec) :=
  OpenClaim.holds_of_wide 4 Try.f4 rfl rfl rfl rfl rfl rfl rfl ⟨rfl, rfl, rfl, rfl, rfl⟩ rfl rfl rfl rfl rfl (by kernel_rfl) Try.func4 (by kernel_rfl)
    (of_decide_eq_true (by kernel_rfl)) (by unfold Func.isWrapper; first | (rw [if_pos (by decide +kernel)]; kernel_rfl) | (rw [if_neg (by decide +kernel)]; exact ⟨rfl, rfl⟩))
    (fun os started H enc _ => news_lifted os started H enc)

theorem news_holds : Rows.NewsSaid := news_over
#print axioms news_holds
end Go.Proofs.Ytghcololkgeoeaa
