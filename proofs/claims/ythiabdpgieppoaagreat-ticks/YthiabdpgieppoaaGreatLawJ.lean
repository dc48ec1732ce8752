import Derived.Test.YthiabdpgieppoaaGreatLawI
import Derived.Test.YthiabdpgieppoaaGreatXH
namespace Go.Proofs.YthiabdpgieppoaaGreat
open Go.RowKit
set_option linter.unusedVariables false
set_option linter.unusedSimpArgs false

theorem Both.mono {N M : Nat} {X : Eng} {R : Ref} (h : Both N X R) (hm : N ≤ M) : Both M X R := ⟨h.sim, h.good.mono hm⟩
/-- a state that is another but for places -/
def PlX (Y X' : Eng) : Prop := ∃ ga gc wa wc, X' = { Y with ga := ga, gc := gc, wa := wa, wc := wc }
theorem both_pl {N : Nat} {X X' : Eng} {R : Ref} (h : Sim X R ∧ Good N R) (hp : PlX X X') : Both N X' R := by
  obtain ⟨ga, gc, wa, wc, rfl⟩ := hp
  exact ⟨h.1.pl rfl rfl rfl rfl rfl rfl, h.2⟩
theorem evoP_pl {w w' : World} {b : Nat} {X Y : Eng} (h : EvoP w b X w' Y) : ∃ X', PlX Y X' ∧ EvoX w b X w' X' := by
  obtain ⟨ga, gc, wa, wc, h⟩ := h
  exact ⟨_, ⟨ga, gc, wa, wc, rfl⟩, h⟩
/-- an index, or none -/
theorem index_cases (A : Int) (n : Nat) : (A < 0 ∨ (n : Int) ≤ A) ∨ ∃ i : Nat, A = i ∧ i < n := by
  by_cases h : A < 0 ∨ (n : Int) ≤ A
  · exact Or.inl h
  · exact Or.inr ⟨A.toNat, by omega, by omega⟩
theorem join_pair (N xb rb : Nat) (X : Eng) (R : Ref) (A : Int) (hb : Both N X R) (hN : N ≤ 7000000000000) : ∃ (z : Int) (RX : Eng → Prop) (RR : Ref → Prop),
    (∀ u, MemX u xb X → Calls Tryz.prog 14 #[.pointer (some ⟨xb, 0, none⟩), .int .i64 A] u fun e w' => e = .returned (.int .i64 z) ∧ ∃ X', RX X' ∧ EvoX u xb X w' X') ∧
    (∀ u, MemR u rb R → Calls Tryz.prog 15 #[.pointer (some ⟨rb, 0, none⟩), .int .i64 A] u fun e w' => e = .returned (.int .i64 z) ∧ ∃ R', RR R' ∧ Evo u rb R w' R') ∧ ∀ X' R', RX X' → RR R' → Both (N + 2) X' R' := by
  have hn := hb.sim.n
  rcases index_cases A R.srcs.length with hA | ⟨i, rfl, hi⟩
  · refine ⟨3, (· = X), (· = R), fun u hu => ?_, fun u hu => ?_, ?_⟩
    · exact (xjoin_none xb X A u hu (by rw [hn]; exact hA)).mono fun e w' ⟨he, hw⟩ => ⟨he, X, rfl, hw ▸ EvoX.refl hu⟩
    · exact (rjoin_none rb R A u hu hA).mono fun e w' ⟨he, hw⟩ => ⟨he, R, rfl, hw ▸ Evo.refl hu⟩
    · rintro X' R' rfl rfl; exact hb.mono (by omega)
  · have hx : i < X.srcs.length := by omega
    have hp := List.getElem?_eq_getElem hx
    have hr := List.getElem?_eq_getElem hi
    have s := hb.sim.src i _ _ hp hr
    cases hin : R.srcs[i].inn with
    | true =>
      refine ⟨4, (· = X), (· = R), fun u hu => ?_, fun u hu => ?_, ?_⟩
      · exact (xjoin_in xb X i u hu hx (by rw [s.inn]; exact hin)).mono fun e w' ⟨he, hw⟩ => ⟨he, X, rfl, hw ▸ EvoX.refl hu⟩
      · exact (rjoin_in rb R i u hu hi hin).mono fun e w' ⟨he, hw⟩ => ⟨he, R, rfl, hw ▸ Evo.refl hu⟩
      · rintro X' R' rfl rfl; exact hb.mono (by omega)
    | false =>
      refine ⟨0, PlX (X.joined i X.srcs[i]), (fun R' => ∃ r', JoinOk R i r' R'), fun u hu => ?_, fun u hu => ?_, ?_⟩
      · exact (xjoin_ok xb X i u hu hb.sane hx (by rw [s.inn]; exact hin)).mono fun e w' ⟨he, hw⟩ => ⟨he, evoP_pl hw⟩
      · exact (rjoin_ok N rb R i u hu hb.good.sane (by omega) hi hin).mono fun e w' ⟨he, r', R', hj, hw⟩ => ⟨he, R', ⟨r', hj⟩, hw⟩
      · rintro X' R' hX ⟨r', hj⟩
        have := sim_join hb.sim hb.good hp hj
        exact (both_pl this hX).mono (by omega)
theorem leave_pair (N xb rb : Nat) (X : Eng) (R : Ref) (A : Int) (hb : Both N X R) (hN : N ≤ 7000000000000) : ∃ (z : Int) (RX : Eng → Prop) (RR : Ref → Prop),
    (∀ u, MemX u xb X → Calls Tryz.prog 16 #[.pointer (some ⟨xb, 0, none⟩), .int .i64 A] u fun e w' => e = .returned (.int .i64 z) ∧ ∃ X', RX X' ∧ EvoX u xb X w' X') ∧
    (∀ u, MemR u rb R → Calls Tryz.prog 17 #[.pointer (some ⟨rb, 0, none⟩), .int .i64 A] u fun e w' => e = .returned (.int .i64 z) ∧ ∃ R', RR R' ∧ Evo u rb R w' R') ∧ ∀ X' R', RX X' → RR R' → Both (N + 2) X' R' := by
  have hn := hb.sim.n
  rcases index_cases A R.srcs.length with hA | ⟨i, rfl, hi⟩
  · refine ⟨3, (· = X), (· = R), fun u hu => ?_, fun u hu => ?_, ?_⟩
    · exact (xleave_none xb X A u hu (by rw [hn]; exact hA)).mono fun e w' ⟨he, hw⟩ => ⟨he, X, rfl, hw ▸ EvoX.refl hu⟩
    · exact (rleave_none rb R A u hu hA).mono fun e w' ⟨he, hw⟩ => ⟨he, R, rfl, hw ▸ Evo.refl hu⟩
    · rintro X' R' rfl rfl; exact hb.mono (by omega)
  · have hx : i < X.srcs.length := by omega
    have hp := List.getElem?_eq_getElem hx
    have hr := List.getElem?_eq_getElem hi
    have s := hb.sim.src i _ _ hp hr
    cases hin : R.srcs[i].inn with
    | false =>
      refine ⟨4, (· = X), (· = R), fun u hu => ?_, fun u hu => ?_, ?_⟩
      · exact (xleave_out xb X i u hu hx (by rw [s.inn]; exact hin)).mono fun e w' ⟨he, hw⟩ => ⟨he, X, rfl, hw ▸ EvoX.refl hu⟩
      · exact (rleave_out rb R i u hu hi hin).mono fun e w' ⟨he, hw⟩ => ⟨he, R, rfl, hw ▸ Evo.refl hu⟩
      · rintro X' R' rfl rfl; exact hb.mono (by omega)
    | true =>
      refine ⟨0, PlX (X.gone i X.srcs[i]), LeaveOk R i, fun u hu => ?_, fun u hu => ?_, ?_⟩
      · exact (xleave_ok xb X i u hu hb.sane hx (by rw [s.inn]; exact hin)).mono fun e w' ⟨he, hw⟩ => ⟨he, evoP_pl hw⟩
      · exact (rleave_ok N rb R i u hu hb.good.sane hi hin).mono fun e w' ⟨he, R', hj, hw⟩ => ⟨he, R', hj, hw⟩
      · rintro X' R' hX hj
        have := sim_leave hb.sim hb.good hp hj
        exact (both_pl this hX).mono (by omega)
theorem punct_pair (N xb rb : Nat) (X : Eng) (R : Ref) (A ts : Int) (hb : Both N X R) (hN : N ≤ 7000000000000) : ∃ (z : Int) (RX : Eng → Prop) (RR : Ref → Prop),
    (∀ u, MemX u xb X → Calls Tryz.prog 20 #[.pointer (some ⟨xb, 0, none⟩), .int .i64 A, .int .i64 ts] u fun e w' => e = .returned (.int .i64 z) ∧ ∃ X', RX X' ∧ EvoX u xb X w' X') ∧
    (∀ u, MemR u rb R → Calls Tryz.prog 21 #[.pointer (some ⟨rb, 0, none⟩), .int .i64 A, .int .i64 ts] u fun e w' => e = .returned (.int .i64 z) ∧ ∃ R', RR R' ∧ Evo u rb R w' R') ∧ ∀ X' R', RX X' → RR R' → Both (N + 2) X' R' := by
  have hn := hb.sim.n
  rcases index_cases A R.srcs.length with hA | ⟨i, rfl, hi⟩
  · refine ⟨3, (· = X), (· = R), fun u hu => ?_, fun u hu => ?_, ?_⟩
    · exact (xpunct_none xb X A ts u hu (by rw [hn]; exact hA)).mono fun e w' ⟨he, hw⟩ => ⟨he, X, rfl, hw ▸ EvoX.refl hu⟩
    · exact (rpunct_none rb R A ts u hu hA).mono fun e w' ⟨he, hw⟩ => ⟨he, R, rfl, hw ▸ Evo.refl hu⟩
    · rintro X' R' rfl rfl; exact hb.mono (by omega)
  · have hx : i < X.srcs.length := by omega
    have hp := List.getElem?_eq_getElem hx
    have hr := List.getElem?_eq_getElem hi
    have s := hb.sim.src i _ _ hp hr
    cases hin : R.srcs[i].inn with
    | false =>
      refine ⟨4, (· = X), (· = R), fun u hu => ?_, fun u hu => ?_, ?_⟩
      · exact (xpunct_out xb X i ts u hu hx (by rw [s.inn]; exact hin)).mono fun e w' ⟨he, hw⟩ => ⟨he, X, rfl, hw ▸ EvoX.refl hu⟩
      · exact (rpunct_out rb R i ts u hu hi hin).mono fun e w' ⟨he, hw⟩ => ⟨he, R, rfl, hw ▸ Evo.refl hu⟩
      · rintro X' R' rfl rfl; exact hb.mono (by omega)
    | true =>
      cases ht : beyondB ts with
      | true =>
        refine ⟨6, (· = X), (· = R), fun u hu => ?_, fun u hu => ?_, ?_⟩
        · exact (xpunct_time xb X i ts u hu hx (by rw [s.inn]; exact hin) ht).mono fun e w' ⟨he, hw⟩ => ⟨he, X, rfl, hw ▸ EvoX.refl hu⟩
        · exact (rpunct_time rb R i ts u hu hi hin ht).mono fun e w' ⟨he, hw⟩ => ⟨he, R, rfl, hw ▸ Evo.refl hu⟩
        · rintro X' R' rfl rfl; exact hb.mono (by omega)
      | false =>
        refine ⟨0, PlX (X.puncted i X.srcs[i] ts), PunctOk R i ts, fun u hu => ?_, fun u hu => ?_, ?_⟩
        · exact (xpunct_ok xb X i ts u hu hb.sane hx (by rw [s.inn]; exact hin) ht).mono fun e w' ⟨he, hw⟩ => ⟨he, evoP_pl hw⟩
        · exact (rpunct_ok N rb R i ts u hu hb.good.sane (by omega) hi hin ht).mono fun e w' ⟨he, R', hj, hw⟩ => ⟨he, R', hj, hw⟩
        · rintro X' R' hX hj
          have htt : ts ≤ 1099511627776 := by simp [beyondB] at ht; omega
          have := sim_punct hb.sim hb.good hp htt hj
          exact both_pl this hX
theorem tick_pair (N xb rb : Nat) (X : Eng) (R : Ref) (n : Int) (hb : Both N X R) (hN : N ≤ 7000000000000) : ∃ (z : Int) (RX : Eng → Prop) (RR : Ref → Prop),
    (∀ u, MemX u xb X → Calls Tryz.prog 22 #[.pointer (some ⟨xb, 0, none⟩), .int .i64 n] u fun e w' => e = .returned (.int .i64 z) ∧ ∃ X', RX X' ∧ EvoX u xb X w' X') ∧
    (∀ u, MemR u rb R → Calls Tryz.prog 23 #[.pointer (some ⟨rb, 0, none⟩), .int .i64 n] u fun e w' => e = .returned (.int .i64 z) ∧ ∃ R', RR R' ∧ Evo u rb R w' R') ∧ ∀ X' R', RX X' → RR R' → Both (N + 2) X' R' := by
  by_cases hn : n < 1 ∨ 1000 < n
  · refine ⟨9, (· = X), (· = R), fun u hu => ?_, fun u hu => ?_, ?_⟩
    · exact (xtick_bad xb n u hn).mono fun e w' ⟨he, hw⟩ => ⟨he, X, rfl, hw ▸ EvoX.refl hu⟩
    · exact (rtick_bad rb n u hn).mono fun e w' ⟨he, hw⟩ => ⟨he, R, rfl, hw ▸ Evo.refl hu⟩
    · rintro X' R' rfl rfl; exact hb.mono (by omega)
  · have hsl : ∀ (i : Nat) p, X.srcs[i]? = some p → 0 ≤ p.sil ∧ p.sil ≤ 1000 := by
      intro i p hp
      have hi : i < R.srcs.length := by rw [← hb.sim.n]; exact (List.getElem?_eq_some_iff.1 hp).1
      have s := (hb.sim.src i p _ hp (List.getElem?_eq_getElem hi)).sil
      by_cases hq : R.srcs[i].sil ≤ 1000
      · have := s.2.1 hq; omega
      · have := s.2.2 (by omega); omega
    refine ⟨0, PlX (X.ticked n), (· = R.ticks n), fun u hu => ?_, fun u hu => ?_, ?_⟩
    · exact (xtick_ok xb X n u hu hb.sane (by omega) hsl).mono fun e w' ⟨he, hw⟩ => ⟨he, evoP_pl hw⟩
    · exact (rtick_ok N rb R n u hu hb.good.sane (by omega) (by omega) (by omega)).mono fun e w' ⟨he, hw⟩ => ⟨he, R.ticks n, rfl, hw⟩
    · rintro X' R' hX rfl
      have := sim_tick hb.sim hb.good (n := n) (by omega) (by omega)
      exact (both_pl this hX).mono (by omega)
end Go.Proofs.YthiabdpgieppoaaGreat
