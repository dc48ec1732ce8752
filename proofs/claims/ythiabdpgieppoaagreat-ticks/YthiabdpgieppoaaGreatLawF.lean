import Derived.Test.YthiabdpgieppoaaGreatLawE
import Derived.Test.YthiabdpgieppoaaGreatXE
namespace Go.Proofs.YthiabdpgieppoaaGreat
open Go.RowKit
set_option linter.unusedVariables false
set_option linter.unusedSimpArgs false

/-- The law's world: both engines and the lists that came out, apart from one another. -/
structure WInv (w : World) (wb xb rb : Nat) (X : Eng) (R : Ref) (a : Option Addr) (c : Nat) (l : List El) : Prop where
  blk : Blk w wb 49 [.pointer (some ⟨xb, 0, none⟩), .pointer (some ⟨rb, 0, none⟩), .slice a l.length c, .slice none 0 0, .slice none 0 0]
  mx : MemX w xb X
  mr : MemR w rb R
  ls : Lists w a c l
  d3 : bk a ≠ some wb
  d4 : some wb ∉ lfp l
  d5 : ∀ k, bk a = some k → some k ∉ lfp l
  xw : some wb ∉ X.fp xb
  rw : some wb ∉ R.fp rb
  xr : ∀ k, some k ∈ X.fp xb → some k ∉ R.fp rb
  xa : ∀ k, some k ∈ X.fp xb → bk a ≠ some k ∧ some k ∉ lfp l
  ra : ∀ k, some k ∈ R.fp rb → bk a ≠ some k ∧ some k ∉ lfp l
theorem WInv.below {w w' : World} {wb xb rb : Nat} {X : Eng} {R : Ref} {a : Option Addr} {c : Nat} {l : List El} (h : WInv w wb xb rb X R a c l) (hb : Below w.heap.size w w') : WInv w' wb xb rb X R a c l :=
  ⟨h.blk.below hb h.blk.lt, h.mx.below hb, h.mr.below hb, h.ls.heap (fun k hk => hb.block k hk), h.d3, h.d4, h.d5, h.xw, h.rw, h.xr, h.xa, h.ra⟩
theorem WInv.evoX {w w' : World} {wb xb rb : Nat} {X X' : Eng} {R : Ref} {a : Option Addr} {c : Nat} {l : List El} (h : WInv w wb xb rb X R a c l) (e : EvoX w xb X w' X') : WInv w' wb xb rb X' R a c l := by
  have hal : ∀ k, bk a = some k → k < w.heap.size := fun k e => h.ls.row.lt e
  have hll := h.ls.lfp_lt
  have hrl := h.mr.fp_lt
  have hwl := h.blk.lt
  refine ⟨h.blk.kept e.kept h.xw, e.mem, h.mr.kept e.kept (fun k hk f => h.xr k f hk), h.ls.kept e.kept (fun k hk f => (h.xa k f).1 hk) (fun k hk f => (h.xa k f).2 hk), h.d3, h.d4, h.d5, ?_, h.rw, ?_, ?_, h.ra⟩
  · intro f
    rcases e.grow _ f with g | g
    · exact h.xw g
    · omega
  · intro k hk f
    rcases e.grow _ hk with g | g
    · exact h.xr k g f
    · have := hrl k f; omega
  · intro k hk
    rcases e.grow _ hk with g | g
    · exact h.xa k g
    · exact ⟨fun f => by have := hal k f; omega, fun f => by have := hll k f; omega⟩
theorem WInv.evoR {w w' : World} {wb xb rb : Nat} {X : Eng} {R R' : Ref} {a : Option Addr} {c : Nat} {l : List El} (h : WInv w wb xb rb X R a c l) (e : Evo w rb R w' R') : WInv w' wb xb rb X R' a c l := by
  have hal : ∀ k, bk a = some k → k < w.heap.size := fun k e => h.ls.row.lt e
  have hll := h.ls.lfp_lt
  have hxl := h.mx.fp_lt
  have hwl := h.blk.lt
  refine ⟨h.blk.kept e.kept h.rw, h.mx.kept e.kept (fun k hk f => h.xr k hk f), e.mem, h.ls.kept e.kept (fun k hk f => (h.ra k f).1 hk) (fun k hk f => (h.ra k f).2 hk), h.d3, h.d4, h.d5, h.xw, ?_, ?_, h.xa, ?_⟩
  · intro f
    rcases e.grow _ f with g | g
    · exact h.rw g
    · omega
  · intro k hk f
    rcases e.grow _ f with g | g
    · exact h.xr k hk g
    · have := hxl k hk; omega
  · intro k hk
    rcases e.grow _ hk with g | g
    · exact h.ra k g
    · exact ⟨fun f => by have := hal k f; omega, fun f => by have := hll k f; omega⟩
theorem WInv.own {w w' : World} {wb xb rb : Nat} {X : Eng} {R : Ref} {a sa : Option Addr} {c : Nat} {l : List El} (h : WInv w wb xb rb X R a c l) (hs : ∀ k, bk sa = some k → k ≠ wb ∧ some k ∉ X.fp xb ∧ some k ∉ R.fp rb)
    (ho : Owned w w' wb (.pointer (some ⟨xb, 0, none⟩)) (.pointer (some ⟨rb, 0, none⟩)) a sa l) : ∃ a' c' E, WInv w' wb xb rb X R a' c' (l ++ [E]) ∧ Kept (fun k => k = wb ∨ bk a = some k ∨ bk sa = some k) w w' ∧ (∀ k, bk a' = some k → bk a = some k ∨ w.heap.size ≤ k) := by
  obtain ⟨a', c', E, hb, hL, hk, hE, ha', hd⟩ := ho
  have hwl := h.blk.lt
  have hxl := h.mx.fp_lt
  have hrl := h.mr.fp_lt
  have hmem : ∀ k, some k ∈ lfp (l ++ [E]) → some k ∈ lfp l ∨ bk sa = some k ∨ w.heap.size ≤ k := by
    intro k hk
    simp only [lfp, List.flatMap_append, List.mem_append, List.flatMap_cons, List.flatMap_nil, List.append_nil] at hk
    rcases hk with hk | hk
    · exact Or.inl hk
    · exact Or.inr (hE k hk)
  refine ⟨a', c', E, ⟨by simpa using hb, h.mx.kept hk ?_, h.mr.kept hk ?_, hL, ?_, ?_, hd, h.xw, h.rw, h.xr, ?_, ?_⟩, hk, ha'⟩
  · intro k hk' f
    rcases f with f | f | f
    · subst f; exact h.xw hk'
    · exact (h.xa k hk').1 f
    · exact (hs k f).2.1 hk'
  · intro k hk' f
    rcases f with f | f | f
    · subst f; exact h.rw hk'
    · exact (h.ra k hk').1 f
    · exact (hs k f).2.2 hk'
  · intro f
    rcases ha' _ f with g | g
    · exact h.d3 g
    · omega
  · intro f
    rcases hmem _ f with g | g | g
    · exact h.d4 g
    · exact (hs _ g).1 rfl
    · omega
  · intro k hk'
    have hlt := hxl k hk'
    refine ⟨fun f => ?_, fun f => ?_⟩
    · rcases ha' _ f with g | g
      · exact (h.xa k hk').1 g
      · omega
    · rcases hmem _ f with g | g | g
      · exact (h.xa k hk').2 g
      · exact (hs k g).2.1 hk'
      · omega
  · intro k hk'
    have hlt := hrl k hk'
    refine ⟨fun f => ?_, fun f => ?_⟩
    · rcases ha' _ f with g | g
      · exact (h.ra k hk').1 g
      · omega
    · rcases hmem _ f with g | g | g
      · exact (h.ra k hk').2 g
      · exact (hs k g).2.2 hk'
      · omega
/-- the bounds of the program's engine follow -/
theorem saneX_of {X : Eng} {R : Ref} {N : Nat} (s : Sim X R) (g : Good N R) : SaneX X := by
  have hl := s.perm.length_eq
  have ga := g.all
  simp only [List.length_append] at hl
  refine ⟨by have := s.n; have := g.srcs; have := g.fits; omega, by omega, by omega, by have := g.aside; rw [s.late]; omega, fun e he => ?_⟩
  have := g.ts e (s.perm.mem_iff.1 (by simp [he]))
  omega
end Go.Proofs.YthiabdpgieppoaaGreat
