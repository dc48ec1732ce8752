import Derived.Test.YtghcololkgeoeabDoorPartD1
import Derived.Test.YtghcololkgeoeabDoorPartB1
import Derived.Test.YtghcololkgeoeabDoorPartC4
namespace Go.Proofs.YtghcololkgeoeabDoor
open Go.RowKit
set_option linter.unusedVariables false
set_option linter.unusedSimpArgs false
attribute [local go_sem ↓] Go.wp_at_zero Go.wp_at_succ

theorem newEng_sane {c : Cfg} {n sg sc : Nat} {p : PatV} (hn : n ≤ 6) : SaneX (newEng c n sg sc p) := by
  refine ⟨?_, ?_, ?_, ?_, ?_⟩
  · show (List.replicate n zP).length ≤ 6
    rw [List.length_replicate]; exact hn
  · show ([] : List Ev).length ≤ 1000; simp
  · show ([] : List Ev).length ≤ 1000; simp
  · show ([] : List Ev).length ≤ 1000; simp
  · intro e he
    exact absurd (show e ∈ ([] : List Ev) from he) (by simp)
def cfgA : Cfg := ⟨1, 0, 0, 1, 0, ByteArray.empty⟩
def cfgB : Cfg := ⟨1, 0, 0, 0, 0, ByteArray.empty⟩
theorem Cfg.agg_eq (c : Cfg) : c.agg = .agg #[.int .i64 c.sources, .int .i64 c.slack, .int .i64 c.policy, .int .i64 c.room, .int .i64 c.idle, .string c.pat] := rfl
/-- a configuration that makes an engine -/
def Cfg.ok (c : Cfg) : Prop := c.fits ∧ c.pat.data.toList.length ≤ 60 ∧ wholeP c.pat.data.toList
end Go.Proofs.YtghcololkgeoeabDoor
namespace Go.Proofs.YtghcololkgeoeabDoor
open Go.RowKit
set_option linter.unusedVariables false
set_option linter.unusedSimpArgs false

/-- the state of both engines -/
structure Both (N : Nat) (X : Eng) (R : Ref) : Prop where
  sim : Sim X R
  good : Good N R
  lines : Lines N X R
theorem Both.sane {N : Nat} {X : Eng} {R : Ref} (h : Both N X R) : SaneX X := saneX_of h.sim h.good
theorem Both.all {N : Nat} {X : Eng} {R : Ref} (h : Both N X R) : R.all.length ≤ 1000 := by have := h.good.all; omega
end Go.Proofs.YtghcololkgeoeabDoor
namespace Go.Proofs.YtghcololkgeoeabDoor
open Go.RowKit
set_option linter.unusedVariables false
set_option linter.unusedSimpArgs false

theorem Both.mono {N M : Nat} {X : Eng} {R : Ref} (h : Both N X R) (hm : N ≤ M) : Both M X R := ⟨h.sim, h.good.mono hm, h.lines.frame rfl rfl hm⟩
/-- a state that is another but for places -/
def PlX (Y X' : Eng) : Prop := ∃ ga gc wa wc, X' = { Y with ga := ga, gc := gc, wa := wa, wc := wc }
theorem both_pl {N : Nat} {X X' : Eng} {R : Ref} (h : Sim X R ∧ Good N R) (hl : Lines N X R) (hp : PlX X X') : Both N X' R := by
  obtain ⟨ga, gc, wa, wc, rfl⟩ := hp
  exact ⟨h.1.pl rfl rfl rfl rfl rfl rfl, h.2, hl.frame rfl rfl (Nat.le_refl _)⟩
theorem evoP_pl {w w' : World} {b : Nat} {X Y : Eng} (h : EvoP w b X w' Y) : ∃ X', PlX Y X' ∧ EvoX w b X w' X' := by
  obtain ⟨ga, gc, wa, wc, h⟩ := h
  exact ⟨_, ⟨ga, gc, wa, wc, rfl⟩, h⟩
/-- an index, or none -/
theorem index_cases (A : Int) (n : Nat) : (A < 0 ∨ (n : Int) ≤ A) ∨ ∃ i : Nat, A = i ∧ i < n := by
  by_cases h : A < 0 ∨ (n : Int) ≤ A
  · exact Or.inl h
  · exact Or.inr ⟨A.toNat, by omega, by omega⟩
end Go.Proofs.YtghcololkgeoeabDoor
