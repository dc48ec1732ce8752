import Derived.Test.YthiabdpgieppoaaGreatLawH
namespace Go.Proofs.YthiabdpgieppoaaGreat
open Go.RowKit
set_option linter.unusedVariables false
set_option linter.unusedSimpArgs false

/-- The law's world, all of whose blocks are newer than w0. -/
structure PInv (w0 w : World) (wb xb rb : Nat) (X : Eng) (R : Ref) (a : Option Addr) (c : Nat) (l : List El) : Prop where
  inv : WInv w wb xb rb X R a c l
  bel : Below w0.heap.size w0 w
  nw : w0.heap.size ≤ wb
  nx : ∀ k, some k ∈ X.fp xb → w0.heap.size ≤ k
  nr : ∀ k, some k ∈ R.fp rb → w0.heap.size ≤ k
  na : ∀ k, bk a = some k → w0.heap.size ≤ k
theorem PInv.below {w0 w w' : World} {wb xb rb : Nat} {X : Eng} {R : Ref} {a : Option Addr} {c : Nat} {l : List El} (h : PInv w0 w wb xb rb X R a c l) (hb : Below w.heap.size w w') : PInv w0 w' wb xb rb X R a c l :=
  ⟨h.inv.below hb, h.bel.trans (hb.mono h.bel.size), h.nw, h.nx, h.nr, h.na⟩
theorem PInv.evoX {w0 w w' : World} {wb xb rb : Nat} {X X' : Eng} {R : Ref} {a : Option Addr} {c : Nat} {l : List El} (h : PInv w0 w wb xb rb X R a c l) (e : EvoX w xb X w' X') : PInv w0 w' wb xb rb X' R a c l :=
  ⟨h.inv.evoX e, kept_toBelow h.bel e.kept h.nx, h.nw, fun k hk => (e.grow k hk).elim (fun f => h.nx k f) (fun f => Nat.le_trans h.bel.size f), h.nr, h.na⟩
theorem PInv.evoR {w0 w w' : World} {wb xb rb : Nat} {X : Eng} {R R' : Ref} {a : Option Addr} {c : Nat} {l : List El} (h : PInv w0 w wb xb rb X R a c l) (e : Evo w rb R w' R') : PInv w0 w' wb xb rb X R' a c l :=
  ⟨h.inv.evoR e, kept_toBelow h.bel e.kept h.nr, h.nw, h.nx, fun k hk => (e.grow k hk).elim (fun f => h.nr k f) (fun f => Nat.le_trans h.bel.size f), h.na⟩
theorem PInv.owned {w0 w w' : World} {wb xb rb : Nat} {X : Eng} {R : Ref} {a a' : Option Addr} {c c' : Nat} {l l' : List El} (h : PInv w0 w wb xb rb X R a c l) (hI : WInv w' wb xb rb X R a' c' l') (hk : Kept (fun k => k = wb ∨ bk a = some k) w w') (ha : ∀ k, bk a' = some k → bk a = some k ∨ w.heap.size ≤ k) : PInv w0 w' wb xb rb X R a' c' l' :=
  ⟨hI, kept_toBelow h.bel hk (fun i e => e.elim (fun e => by rw [e]; exact h.nw) (fun e => h.na i e)), h.nw, h.nx, h.nr, fun k e => (ha k e).elim (fun f => h.na k f) (fun f => Nat.le_trans h.bel.size f)⟩
/-- the state of both engines -/
structure Both (N : Nat) (X : Eng) (R : Ref) : Prop where
  sim : Sim X R
  good : Good N R
theorem Both.sane {N : Nat} {X : Eng} {R : Ref} (h : Both N X R) : SaneX X := saneX_of h.sim h.good
theorem Both.all {N : Nat} {X : Eng} {R : Ref} (h : Both N X R) : R.all.length ≤ 1000 := by have := h.good.all; omega
/-- a step that asks, of the kinds 7 to 10 -/
theorem asks_any (k A : Int) (E : Ev) (S : ByteArray) (N : Nat) (w0 w : World) (wb xb rb : Nat) (X : Eng) (R : Ref) (a : Option Addr) (c : Nat) (l : List El) (h : PInv w0 w wb xb rb X R a c l) (hb : Both N X R) (hl : l.length ≤ 5000000000000) (hk : 7 ≤ k ∧ k ≤ 10) :
    Calls Tryz.prog 26 #[.pointer (some ⟨wb, 0, none⟩), opVal k A E S] w fun e w' => e = .returned (.bool true) ∧ ∃ a' c' l', l'.length ≤ l.length + 1 ∧ PInv w0 w' wb xb rb X R a' c' l' := by
  have hkk : k = 7 ∨ k = 8 ∨ k = 9 ∨ k = 10 := by omega
  rcases hkk with rfl | rfl | rfl | rfl
  · exact (asks_mark wb xb rb X R a c l A E S w h.inv hb.sim.merged).mono fun e w' ⟨he, hw⟩ => ⟨he, a, c, l, Nat.le_succ _, h.below hw⟩
  · exact (asks_source wb xb rb X R a c l A E S w h.inv hb.sane hb.all (tell_same hb.sim A)).mono fun e w' ⟨he, hw⟩ => ⟨he, a, c, l, Nat.le_succ _, h.below hw⟩
  · exact (asks_log wb xb rb X R a c l A E S w h.inv hb.sane hb.all hb.sim hl).mono fun e w' ⟨he, a', c', E', hI, hkp, ha⟩ => ⟨he, a', c', l ++ [E'], by simp, h.owned hI hkp ha⟩
  · exact (asks_late wb xb rb X R a c l A E S w h.inv hb.sane hb.sim.late hl).mono fun e w' ⟨he, a', c', E', hI, hkp, ha⟩ => ⟨he, a', c', l ++ [E'], by simp, h.owned hI hkp ha⟩
/-- begun, where an engine is made -/
theorem begun_p (c : Cfg) (w0 w : World) (hb0 : Below w0.heap.size w0 w) (hok : c.ok) : Calls Tryz.prog 7 #[c.agg] w fun e w' => ∃ wb xb rb X R, e = .returned (.tuple #[.pointer (some ⟨wb, 0, none⟩), .bool true]) ∧ PInv w0 w' wb xb rb X R none 0 [] ∧ Both 0 X R := by
  refine (begun_ok c w hok).mono ?_
  rintro e w' ⟨wb, xb, rb, X, R, he, hI, hs, hg, hb, hw, hx, hr⟩
  have := hb0.size
  exact ⟨wb, xb, rb, X, R, he, ⟨hI, hb0.trans (hb.mono this), by omega, fun k hk => by have := hx k hk; omega, fun k hk => by have := hr k hk; omega, fun k hk => by cases hk⟩, ⟨hs, hg⟩⟩
end Go.Proofs.YthiabdpgieppoaaGreat
