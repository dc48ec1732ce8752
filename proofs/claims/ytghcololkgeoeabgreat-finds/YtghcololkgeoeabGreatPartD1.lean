import Derived.Test.YtghcololkgeoeabGreatPartQ1
import Derived.Test.YtghcololkgeoeabGreatPartC2
import Derived.Test.YtghcololkgeoeabGreatPartB0
namespace Go.Proofs.YtghcololkgeoeabGreat
open Go.RowKit
set_option linter.unusedVariables false
set_option linter.unusedSimpArgs false

structure WInv (w : World) (wb xb rb : Nat) (X : Eng) (R : Ref) (a : Option Addr) (c : Nat) (l : Lz) : Prop where
  blk : Blk w wb 51 [.pointer (some ⟨xb, 0, none⟩), .pointer (some ⟨rb, 0, none⟩), .slice a l.e.length c, .slice l.ia l.i.length l.ic, .slice l.oa l.o.length l.oc]
  mx : MemX w xb X
  mr : MemR w rb R
  ls : LsInv w a c l
  d3 : bk a ≠ some wb
  d4 : some wb ∉ zfp l
  d5 : ∀ k, bk a = some k → some k ∉ zfp l
  xw : some wb ∉ X.fp xb
  rw : some wb ∉ R.fp rb
  xr : ∀ k, some k ∈ X.fp xb → some k ∉ R.fp rb
  xa : ∀ k, some k ∈ X.fp xb → bk a ≠ some k ∧ some k ∉ zfp l
  ra : ∀ k, some k ∈ R.fp rb → bk a ≠ some k ∧ some k ∉ zfp l
theorem WInv.below {w w' : World} {wb xb rb : Nat} {X : Eng} {R : Ref} {a : Option Addr} {c : Nat} {l : Lz} (h : WInv w wb xb rb X R a c l) (hb : Below w.heap.size w w') : WInv w' wb xb rb X R a c l :=
  ⟨h.blk.below hb h.blk.lt, h.mx.below hb, h.mr.below hb, h.ls.below hb, h.d3, h.d4, h.d5, h.xw, h.rw, h.xr, h.xa, h.ra⟩
theorem WInv.evoX {w w' : World} {wb xb rb : Nat} {X X' : Eng} {R : Ref} {a : Option Addr} {c : Nat} {l : Lz} (h : WInv w wb xb rb X R a c l) (e : EvoX w xb X w' X') : WInv w' wb xb rb X' R a c l := by
  have hal : ∀ k, bk a = some k → k < w.heap.size := fun k e => h.ls.le.row.lt e
  have hll := h.ls.zfp_lt
  have hrl := h.mr.fp_lt
  have hwl := h.blk.lt
  refine ⟨h.blk.kept e.kept h.xw, e.mem, h.mr.kept e.kept (fun k hk f => h.xr k f hk), h.ls.kept e.kept (fun k hk f => (h.xa k f).1 hk) (fun k hk f => (h.xa k f).2 hk), h.d3, h.d4, h.d5, ?_, h.rw, ?_, ?_, h.ra⟩
  · intro f
    rcases e.grow _ f with g | g
    · exact h.xw g
    · omega
  · intro k hk f
    rcases e.grow _ hk with g | g
    · exact h.xr k g f
    · have := hrl k f; omega
  · intro k hk
    rcases e.grow _ hk with g | g
    · exact h.xa k g
    · exact ⟨fun f => by have := hal k f; omega, fun f => by have := hll k f; omega⟩
theorem WInv.evoR {w w' : World} {wb xb rb : Nat} {X : Eng} {R R' : Ref} {a : Option Addr} {c : Nat} {l : Lz} (h : WInv w wb xb rb X R a c l) (e : Evo w rb R w' R') : WInv w' wb xb rb X R' a c l := by
  have hal : ∀ k, bk a = some k → k < w.heap.size := fun k e => h.ls.le.row.lt e
  have hll := h.ls.zfp_lt
  have hxl := h.mx.fp_lt
  have hwl := h.blk.lt
  refine ⟨h.blk.kept e.kept h.rw, h.mx.kept e.kept (fun k hk f => h.xr k hk f), e.mem, h.ls.kept e.kept (fun k hk f => (h.ra k f).1 hk) (fun k hk f => (h.ra k f).2 hk), h.d3, h.d4, h.d5, h.xw, ?_, ?_, h.xa, ?_⟩
  · intro f
    rcases e.grow _ f with g | g
    · exact h.rw g
    · omega
  · intro k hk f
    rcases e.grow _ f with g | g
    · exact h.xr k hk g
    · have := hxl k hk; omega
  · intro k hk
    rcases e.grow _ hk with g | g
    · exact h.ra k g
    · exact ⟨fun f => by have := hal k f; omega, fun f => by have := hll k f; omega⟩
theorem WInv.own {w w' : World} {wb xb rb : Nat} {X : Eng} {R : Ref} {a sa : Option Addr} {c : Nat} {l : Lz} (h : WInv w wb xb rb X R a c l) (hs : ∀ k, bk sa = some k → k ≠ wb ∧ some k ∉ X.fp xb ∧ some k ∉ R.fp rb ∧ some k ∉ zfp l)
    (ho : Owned1 kdE w w' wb 51 [.pointer (some ⟨xb, 0, none⟩), .pointer (some ⟨rb, 0, none⟩), .slice a l.e.length c, .slice l.ia l.i.length l.ic, .slice l.oa l.o.length l.oc] 2 a sa [] l.e) : ∃ a' c' E, WInv w' wb xb rb X R a' c' (l.more E) ∧ Kept (fun k => k = wb ∨ bk a = some k ∨ bk sa = some k) w w' ∧ (∀ k, bk a' = some k → bk a = some k ∨ w.heap.size ≤ k) := by
  obtain ⟨a', c', E, hb, hL, hk, hE, ha', hd⟩ := ho
  have hwl := h.blk.lt
  have hxl := h.mx.fp_lt
  have hrl := h.mr.fp_lt
  have hzl := h.ls.zfp_lt
  have hmem : ∀ k, some k ∈ fp1 (l.e ++ [E]) → some k ∈ fp1 l.e ∨ bk sa = some k ∨ w.heap.size ≤ k := by
    intro k hk
    simp only [fp1, List.flatMap_append, List.mem_append, List.flatMap_cons, List.flatMap_nil, List.append_nil] at hk
    rcases hk with hk | hk
    · exact Or.inl hk
    · rcases hE k hk with e | e | e
      · exact Or.inr (Or.inl e)
      · cases e
      · exact Or.inr (Or.inr e)
  have hz : ∀ k, some k ∈ zfp (l.more E) → some k ∈ zfp l ∨ bk sa = some k ∨ w.heap.size ≤ k := by
    intro k hk
    rcases mem_zfp.1 hk with e | e | e | e | e
    · exact Or.inl (zfp_ia e)
    · exact Or.inl (zfp_oa e)
    · rcases hmem k e with e | e
      · exact Or.inl (zfp_e e)
      · exact Or.inr e
    · exact Or.inl (zfp_i e)
    · exact Or.inl (zfp_o e)
  have hold : ∀ k, some k ∈ zfp l → ¬ (k = wb ∨ bk a = some k ∨ bk sa = some k) := by
    intro k hk' f
    rcases f with f | f | f
    · subst f; exact h.d4 hk'
    · exact h.d5 k f hk'
    · exact (hs k f).2.2.2 hk'
  have hnew : ∀ k, some k ∈ zfp l → (∀ k', some k' ∈ fp1 l.e → k' = k → False) → some k ∉ fp1 (l.e ++ [E]) := by
    intro k hk' hn f
    rcases hmem k f with e | e | e
    · exact hn k e rfl
    · exact (hs k e).2.2.2 hk'
    · have := hzl k hk'; omega
  refine ⟨a', c', E, ⟨by simpa [Lz.more] using hb, h.mx.kept hk ?_, h.mr.kept hk ?_, ⟨hL, h.ls.li.kept hk (fun k e => hold k (zfp_ia e)) (fun k e => hold k (zfp_i e)), h.ls.lo.kept hk (fun k e => hold k (zfp_oa e)) (fun k e => hold k (zfp_o e)), fun k e => ⟨(h.ls.di k e).1, hnew k (zfp_ia e) (fun k' e' f => by subst f; exact (h.ls.di k' e).2.1 e'), (h.ls.di k e).2.2⟩, fun k e => ⟨hnew k (zfp_oa e) (fun k' e' f => by subst f; exact (h.ls.do_ k' e).1 e'), (h.ls.do_ k e).2⟩, h.ls.num⟩, ?_, ?_, ?_, h.xw, h.rw, h.xr, ?_, ?_⟩, hk, ha'⟩
  · intro k hk' f
    rcases f with f | f | f
    · subst f; exact h.xw hk'
    · exact (h.xa k hk').1 f
    · exact (hs k f).2.1 hk'
  · intro k hk' f
    rcases f with f | f | f
    · subst f; exact h.rw hk'
    · exact (h.ra k hk').1 f
    · exact (hs k f).2.2.1 hk'
  · intro f
    rcases ha' _ f with g | g
    · exact h.d3 g
    · omega
  · intro f
    rcases hz _ f with g | g | g
    · exact h.d4 g
    · exact (hs _ g).1 rfl
    · omega
  · intro k e f
    rcases mem_zfp.1 f with g | g | g | g | g
    · rcases ha' k e with e | e
      · exact h.d5 k e (zfp_ia g)
      · have := hzl k (zfp_ia g); omega
    · rcases ha' k e with e | e
      · exact h.d5 k e (zfp_oa g)
      · have := hzl k (zfp_oa g); omega
    · exact hd k e g
    · rcases ha' k e with e | e
      · exact h.d5 k e (zfp_i g)
      · have := hzl k (zfp_i g); omega
    · rcases ha' k e with e | e
      · exact h.d5 k e (zfp_o g)
      · have := hzl k (zfp_o g); omega
  · intro k hk'
    have hlt := hxl k hk'
    refine ⟨fun f => ?_, fun f => ?_⟩
    · rcases ha' _ f with g | g
      · exact (h.xa k hk').1 g
      · omega
    · rcases hz _ f with g | g | g
      · exact (h.xa k hk').2 g
      · exact (hs k g).2.1 hk'
      · omega
  · intro k hk'
    have hlt := hrl k hk'
    refine ⟨fun f => ?_, fun f => ?_⟩
    · rcases ha' _ f with g | g
      · exact (h.ra k hk').1 g
      · omega
    · rcases hz _ f with g | g | g
      · exact (h.ra k hk').2 g
      · exact (hs k g).2.2.1 hk'
      · omega
theorem WInv.lists {w w' : World} {wb xb rb : Nat} {X : Eng} {R : Ref} {a : Option Addr} {c : Nat} {l : Lz} {H m : Nat} (h : WInv w wb xb rb X R a c l) (hH : ∀ k, (k = wb ∨ bk a = some k ∨ some k ∈ zfp l ∨ some k ∈ X.fp xb ∨ some k ∈ R.fp rb) → k < H) (hm : m ≤ 100)
    (ho : OwnedL w w' wb (.pointer (some ⟨xb, 0, none⟩)) (.pointer (some ⟨rb, 0, none⟩)) (.slice a l.e.length c) l.ia l.i l.oa l.o H m) : ∃ l', WInv w' wb xb rb X R a c l' ∧ l'.length = l.length + 1 ∧ Kept (fun k => k = wb ∨ bk l.ia = some k ∨ bk l.oa = some k ∨ H ≤ k) w w' ∧ ∀ k, (bk l'.ia = some k ∨ bk l'.oa = some k) → (bk l.ia = some k ∨ bk l.oa = some k) ∨ w.heap.size ≤ k := by
  obtain ⟨ja, jc, jl, a', c', E, hB, hi, hO, hlen, hK, i1, i2, i3, o1, o2, e1⟩ := ho
  have hwl := h.blk.lt
  have hxl := h.mx.fp_lt
  have hrl := h.mr.fp_lt
  have hzl := h.ls.zfp_lt
  have hal : ∀ k, bk a = some k → k < w.heap.size := fun k e => h.ls.le.row.lt e
  have hap : ∀ k, some k ∈ fp1 (l.o ++ [E]) → some k ∈ fp1 l.o ∨ some k ∈ E.fp := fun k e => by
    simpa only [fp1, List.flatMap_append, List.mem_append, List.flatMap_cons, List.flatMap_nil, List.append_nil] using e
  have hz : ∀ k, some k ∈ zfp ⟨l.e, ja, jc, jl, a', c', l.o ++ [E]⟩ → some k ∈ zfp l ∨ H ≤ k ∨ w.heap.size ≤ k := by
    intro k hk
    rcases mem_zfp.1 hk with e | e | e | e | e
    · rcases i1 k e with e | e
      · exact Or.inl (zfp_ia e)
      · exact Or.inr (Or.inr e)
    · rcases o1 k e with e | e
      · exact Or.inl (zfp_oa e)
      · exact Or.inr (Or.inr e)
    · exact Or.inl (zfp_e e)
    · rcases i3 k e with e | e
      · exact Or.inl (zfp_i e)
      · exact Or.inr (Or.inl e)
    · rcases hap k e with e | e
      · exact Or.inl (zfp_o e)
      · exact Or.inr (Or.inl (e1 k e))
  have out : ∀ k, k < H → k < w.heap.size → some k ∉ zfp l → some k ∉ zfp ⟨l.e, ja, jc, jl, a', c', l.o ++ [E]⟩ := by
    intro k h1 h2 h3 f
    rcases hz k f with e | e | e
    · exact h3 e
    · omega
    · omega
  have hS : ∀ k, k < H → k ≠ wb → bk l.ia ≠ some k → bk l.oa ≠ some k → ¬ (k = wb ∨ bk l.ia = some k ∨ bk l.oa = some k ∨ H ≤ k) := by
    rintro k h1 h2 h3 h4 (e | e | e | e)
    · exact h2 e
    · exact h3 e
    · exact h4 e
    · omega
  have hae : ∀ k, bk a = some k → ¬ (k = wb ∨ bk l.ia = some k ∨ bk l.oa = some k ∨ H ≤ k) := fun k e => hS k (hH k (Or.inr (Or.inl e))) (fun f => h.d3 (by rw [e, f])) (fun f => h.d5 k e (zfp_ia f)) (fun f => h.d5 k e (zfp_oa f))
  have hee : ∀ k, some k ∈ fp1 l.e → ¬ (k = wb ∨ bk l.ia = some k ∨ bk l.oa = some k ∨ H ≤ k) := fun k e => hS k (hH k (Or.inr (Or.inr (Or.inl (zfp_e e))))) (fun f => h.d4 (by rw [← f]; exact zfp_e e)) (fun f => (h.ls.di k f).2.1 e) (fun f => (h.ls.do_ k f).1 e)
  refine ⟨⟨l.e, ja, jc, jl, a', c', l.o ++ [E]⟩, ⟨by simpa using hB, h.mx.kept hK ?_, h.mr.kept hK ?_, ⟨h.ls.le.kept hK hae hee, hi, hO, fun k e => ⟨(i2 k e).2.1, ?_, (i2 k e).1, (i2 k e).2.2⟩, fun k e => ⟨?_, o2 k e⟩, ?_⟩, h.d3, out wb (hH wb (Or.inl rfl)) hwl h.d4, fun k e => out k (hH k (Or.inr (Or.inl e))) (hal k e) (h.d5 k e), h.xw, h.rw, h.xr, fun k e => ⟨(h.xa k e).1, out k (hH k (Or.inr (Or.inr (Or.inr (Or.inl e))))) (hxl k e) (h.xa k e).2⟩, fun k e => ⟨(h.ra k e).1, out k (hH k (Or.inr (Or.inr (Or.inr (Or.inr e))))) (hrl k e) (h.ra k e).2⟩⟩, by simp [Lz.length]; omega, hK, fun k e => ?_⟩
  · intro k hk' f
    refine hS k (hH k (Or.inr (Or.inr (Or.inr (Or.inl hk'))))) (fun e => h.xw (e ▸ hk')) (fun e => (h.xa k hk').2 (zfp_ia e)) (fun e => (h.xa k hk').2 (zfp_oa e)) f
  · intro k hk' f
    refine hS k (hH k (Or.inr (Or.inr (Or.inr (Or.inr hk'))))) (fun e => h.rw (e ▸ hk')) (fun e => (h.ra k hk').2 (zfp_ia e)) (fun e => (h.ra k hk').2 (zfp_oa e)) f
  · intro f
    rcases i1 k e with g | g
    · exact (h.ls.di k g).2.1 f
    · have := hzl k (zfp_e f); omega
  · intro f
    rcases o1 k e with g | g
    · exact (h.ls.do_ k g).1 f
    · have := hzl k (zfp_e f); omega
  · show jl.length ≤ 100 * (l.o ++ [E]).length
    have := h.ls.num
    simp only [List.length_append, List.length_cons, List.length_nil]
    omega
  · rcases e with e | e
    · exact (i1 k e).imp Or.inl id
    · exact (o1 k e).imp Or.inr id
theorem saneX_of {X : Eng} {R : Ref} {N : Nat} (s : Sim X R) (g : Good N R) : SaneX X := by
  have hl := s.perm.length_eq
  have ga := g.all
  simp only [List.length_append] at hl
  refine ⟨by have := s.n; have := g.srcs; have := g.fits; omega, by omega, by omega, by have := g.aside; rw [s.late]; omega, fun e he => ?_⟩
  have := g.ts e (s.perm.mem_iff.1 (by simp [he]))
  omega
end Go.Proofs.YtghcololkgeoeabGreat
namespace Go.Proofs.YtghcololkgeoeabGreat
open Go.RowKit
set_option linter.unusedVariables false
set_option linter.unusedSimpArgs false
attribute [local go_sem ↓] Go.wp_at_zero Go.wp_at_succ

def opVal (k A : Int) (E : Ev) (S : ByteArray) : Value := .agg #[.int .i64 k, .int .i64 A, .int .i64 E.src, .int .i64 E.seq, .int .i64 E.ts, .int .i64 E.kind, .int .i64 E.val, .string S]
def opCells (k A : Int) (E : Ev) (S : ByteArray) : List Value := [.int .i64 k, .int .i64 A, .int .i64 E.src, .int .i64 E.seq, .int .i64 E.ts, .int .i64 E.kind, .int .i64 E.val, .string S]
structure Told where
  inn : Bool
  idle : Bool
  mark : Int
  n : Int
  last : Int
  err : Int
def Told.cells (T : Told) : List Value := [.bool T.inn, .bool T.idle, .int .i64 T.mark, .int .i64 T.n, .int .i64 T.last]
def Eng.tell (X : Eng) (s : Int) : Told := if s < 0 then ⟨false, false, 0, 0, 0, 3⟩ else match X.srcs[s.toNat]? with | some p => ⟨p.inn, p.idle, p.mark, X.waitOf s, p.last, 0⟩ | none => ⟨false, false, 0, 0, 0, 3⟩
def Ref.tell (R : Ref) (s : Int) : Told := if s < 0 then ⟨false, false, 0, 0, 0, 3⟩ else match R.srcs[s.toNat]? with | some r => ⟨r.inn, R.isIdle s.toNat, R.mark s.toNat, (R.wait s).length, greatest r.seqs (-1), 0⟩ | none => ⟨false, false, 0, 0, 0, 3⟩
theorem tell_same {X : Eng} {R : Ref} (h : Sim X R) (s : Int) : X.tell s = R.tell s := by
  unfold Eng.tell Ref.tell
  by_cases hs : s < 0
  · rw [if_pos hs, if_pos hs]
  · rw [if_neg hs, if_neg hs]
    by_cases hl : s.toNat < R.srcs.length
    · obtain ⟨p, r, hp, hr⟩ := sim_get h hl
      rw [hp, hr]
      simp only
      have q := h.src _ p r hp hr
      obtain ⟨_, hm⟩ := sim_active h hp hr
      have hid : R.isIdle s.toNat = p.idle := by unfold Ref.isIdle; rw [hr]; exact q.idle.symm
      have hw := sim_waitOf h s (by omega)
      unfold Eng.waitOf
      rw [hw, q.inn, hid, hm, q.last]
    · have hn := h.n
      rw [List.getElem?_eq_none (by omega), List.getElem?_eq_none (by omega)]
theorem xsource_any (b : Nat) (X : Eng) (s : Int) (hs : SaneX X) (w : World) (h : MemX w b X) :
    Calls Tryz.prog 14 #[.pointer (some ⟨b, 0, none⟩), .int .i64 s] w fun e w' => e = .returned (.tuple #[srcAgg (X.tell s).inn (X.tell s).idle (X.tell s).mark (X.tell s).n (X.tell s).last, .int .i64 (X.tell s).err]) ∧ Below w.heap.size w w' := by
  unfold Eng.tell
  by_cases h0 : s < 0
  · rw [if_pos h0]; exact xsource_none b X s w h (Or.inl h0)
  · rw [if_neg h0]
    by_cases hl : s.toNat < X.srcs.length
    · rw [List.getElem?_eq_getElem hl]
      have := xsource_some b X s.toNat w h hs hl
      rw [show ((s.toNat : Nat) : Int) = s by omega] at this
      exact this
    · rw [List.getElem?_eq_none (by omega)]
      exact xsource_none b X s w h (Or.inr (by omega))
theorem rof_any (b : Nat) (R : Ref) (s : Int) (hall : R.all.length ≤ 1000) (w : World) (h : MemR w b R) :
    Calls Tryz.prog 15 #[.pointer (some ⟨b, 0, none⟩), .int .i64 s] w fun e w' => e = .returned (.tuple #[srcAgg (R.tell s).inn (R.tell s).idle (R.tell s).mark (R.tell s).n (R.tell s).last, .int .i64 (R.tell s).err]) ∧ Below w.heap.size w w' := by
  unfold Ref.tell
  by_cases h0 : s < 0
  · rw [if_pos h0]; exact rof_none b R s w h (Or.inl h0)
  · rw [if_neg h0]
    by_cases hl : s.toNat < R.srcs.length
    · rw [List.getElem?_eq_getElem hl]
      have := rof_some b R s.toNat w h hall hl
      rw [show ((s.toNat : Nat) : Int) = s by omega] at this
      exact this
    · rw [List.getElem?_eq_none (by omega)]
      exact rof_none b R s w h (Or.inr (by omega))
set_option maxRecDepth 100000 in
set_option maxHeartbeats 2000000 in
theorem asks_mark (wb xb rb : Nat) (X : Eng) (R : Ref) (a : Option Addr) (c : Nat) (l : Lz) (A : Int) (E : Ev) (S : ByteArray) (w : World) (h : WInv w wb xb rb X R a c l) (hm : X.merged = R.merged) :
    Calls Tryz.prog 6 #[.pointer (some ⟨wb, 0, none⟩), opVal 7 A E S] w fun e w' => e = .returned (.bool true) ∧ Below w.heap.size w w' := by
  obtain ⟨p0, HW1⟩ := hex (w.alloc (.cells (opCells 7 A E S).toArray 32))
  have HBp0 : Hid (Below w.heap.size w p0) := by show Below _ _ _; rw [HW1.out]; exact (Below.refl _ _).alloc (Nat.le_refl _) _
  have HIp0 : Hid (WInv p0 wb xb rb X R a c l) := h.below HBp0.out
  obtain ⟨ob, HOb⟩ := hex w.heap.size
  have HOp0 : Hid (Blk p0 ob 32 (opCells 7 A E S)) := by show Blk _ _ _ _; rw [HW1.out, HOb.out]; exact blk_alloc _ _ _
  have hw1 : w.alloc (.cells #[.int .i64 7, .int .i64 A, .int .i64 E.src, .int .i64 E.seq, .int .i64 E.ts, .int .i64 E.kind, .int .i64 E.val, .string S] 32) = p0 := HW1.out.symm
  unfold opVal
  go_enter Tryz.func6, Tryz.ntmps6
  go_upto_region 1 with fail
  rw [← HOb.out]
  clear hw1 HW1 h
  have o0 := HOp0.out.cell 0
  have b0 := HIp0.out.blk.cell 0
  have b1 := HIp0.out.blk.cell 1
  simp only [opCells, List.getElem?_cons_zero, List.getElem?_cons_succ] at o0 b0 b1
  have r12 := HIp0.out.mr.cells.2.2.2.2
  rw [← hm] at r12
  clear hm
  go_wp2_with (go_at_call 13; refine (xmark_any xb X _ HIp0.out.mx).mono ?_; rintro e w' ⟨rfl, rfl⟩)
  go_ret
  exact ⟨rfl, HBp0.out⟩
set_option maxRecDepth 100000 in
set_option maxHeartbeats 8000000 in
theorem asks_source (wb xb rb : Nat) (X : Eng) (R : Ref) (a : Option Addr) (c : Nat) (l : Lz) (A : Int) (E : Ev) (S : ByteArray) (w : World) (h : WInv w wb xb rb X R a c l) (hs : SaneX X) (hall : R.all.length ≤ 1000) (ht : X.tell A = R.tell A) :
    Calls Tryz.prog 6 #[.pointer (some ⟨wb, 0, none⟩), opVal 8 A E S] w fun e w' => e = .returned (.bool true) ∧ Below w.heap.size w w' := by
  obtain ⟨T, HT⟩ := hex (X.tell A)
  have hX : ∀ (w : World), MemX w xb X → Calls Tryz.prog 14 #[.pointer (some ⟨xb, 0, none⟩), .int .i64 A] w fun e w' => e = .returned (.tuple #[srcAgg T.inn T.idle T.mark T.n T.last, .int .i64 T.err]) ∧ Below w.heap.size w w' := by
    rw [HT.out]; exact fun w => xsource_any xb X A hs w
  have hR : ∀ (w : World), MemR w rb R → Calls Tryz.prog 15 #[.pointer (some ⟨rb, 0, none⟩), .int .i64 A] w fun e w' => e = .returned (.tuple #[srcAgg T.inn T.idle T.mark T.n T.last, .int .i64 T.err]) ∧ Below w.heap.size w w' := by
    rw [HT.out, ht]; exact fun w => rof_any rb R A hall w
  clear ht HT hs hall
  obtain ⟨p0, HW1⟩ := hex (w.alloc (.cells (opCells 8 A E S).toArray 32))
  have HBp0 : Hid (Below w.heap.size w p0) := by show Below _ _ _; rw [HW1.out]; exact (Below.refl _ _).alloc (Nat.le_refl _) _
  have HIp0 : Hid (WInv p0 wb xb rb X R a c l) := h.below HBp0.out
  obtain ⟨ob, HOb⟩ := hex w.heap.size
  have HOp0 : Hid (Blk p0 ob 32 (opCells 8 A E S)) := by show Blk _ _ _ _; rw [HW1.out, HOb.out]; exact blk_alloc _ _ _
  have hw1 : w.alloc (.cells #[.int .i64 8, .int .i64 A, .int .i64 E.src, .int .i64 E.seq, .int .i64 E.ts, .int .i64 E.kind, .int .i64 E.val, .string S] 32) = p0 := HW1.out.symm
  unfold opVal
  go_enter Tryz.func6, Tryz.ntmps6
  go_upto_region 1 with fail
  rw [← HOb.out]
  clear hw1 HW1 h
  have o0 := HOp0.out.cell 0
  have b0 := HIp0.out.blk.cell 0
  have b1 := HIp0.out.blk.cell 1
  simp only [opCells, List.getElem?_cons_zero, List.getElem?_cons_succ] at o0 b0 b1
  go_upto_region 6 with fail
  clear o0 b0 b1
  have bp := HIp0.out.blk.cell 0
  have op := HOp0.out.cell 1
  simp only [opCells, List.getElem?_cons_zero, List.getElem?_cons_succ] at bp op
  refine upTo_region (fun u : World => u.cell? ⟨wb, 0, none⟩ = some (.pointer (some ⟨xb, 0, none⟩)) ∧ u.cell? ⟨ob, 1, none⟩ = some (.int .i64 A)) 12 13 rfl (by kernel_rfl) ?_
  have hS0 : (fun u : World => u.cell? ⟨wb, 0, none⟩ = some (.pointer (some ⟨xb, 0, none⟩)) ∧ u.cell? ⟨ob, 1, none⟩ = some (.int .i64 A)) p0.drew := ⟨bp, op⟩
  refine upTo_tk (i := 0) (v := ?v32_0) rfl (by kernel_rfl) (fun _ _ _ h => h) (by rfl) hS0 ?h32_0 ?r32_0
  case h32_0 => (intro u hu; (try dsimp only at hu); go_simp; first | done | with_reducible rfl)
  (try simp only [Act.put, tkS])
  refine upTo_tk (i := 1) (v := ?v32_1) rfl (by kernel_rfl) (fun _ _ _ h => h) (by rfl) hS0 ?h32_1 ?r32_1
  case h32_1 => (intro u hu; (try dsimp only at hu); go_simp; first | done | with_reducible rfl)
  (try simp only [Act.put, tkS])
  refine upTo_tk (i := 2) (v := ?v32_2) rfl (by kernel_rfl) (fun _ _ _ h => h) (by rfl) hS0 ?h32_2 ?r32_2
  case h32_2 => (intro u hu; (try dsimp only at hu); go_simp; first | done | with_reducible rfl)
  (try simp only [Act.put, tkS])
  refine upTo_tk (i := 3) (v := ?v32_3) rfl (by kernel_rfl) (fun _ _ _ h => h) (by rfl) hS0 ?h32_3 ?r32_3
  case h32_3 => (intro u hu; (try dsimp only at hu); go_simp; first | done | with_reducible rfl)
  (try simp only [Act.put, tkS])
  refine upTo_tk (i := 4) (v := ?v32_4) rfl (by kernel_rfl) (fun _ _ _ h => h) (by rfl) hS0 ?h32_4 ?r32_4
  case h32_4 => (intro u hu; (try dsimp only at hu); go_simp; first | done | with_reducible rfl)
  (try simp only [Act.put, tkS])
  refine upTo_tk (i := 5) (v := ?v32_5) rfl (by kernel_rfl) (fun _ _ _ h => h) (by rfl) hS0 ?h32_5 ?r32_5
  case h32_5 => (intro u hu; (try dsimp only at hu); go_simp; first | done | with_reducible rfl)
  (try simp only [Act.put, tkS])
  clear hS0 bp op
  have HSx : Hid (∀ v : World, Below p0.heap.size p0 v → (fun u : World => u.cell? ⟨wb, 0, none⟩ = some (.pointer (some ⟨xb, 0, none⟩)) ∧ u.cell? ⟨ob, 1, none⟩ = some (.int .i64 A)) v) := by
    intro v hv
    exact ⟨(HIp0.out.below hv).blk.cell 0, (HOp0.out.below hv HOp0.out.lt).cell 1⟩
  refine upTo_two (i := 6) (j := 10) (by kernel_rfl) rfl rfl (fun K hK => ?_) (fun K hK => ?_)
  · skip
    go_simp
    refine (hX _ (HIp0.out.mx.drew)).mono ?_
    rintro e up ⟨rfl, hb2⟩
    have HB2 : Hid (Below p0.heap.size p0 up) := ⟨hb2.os, hb2.tape, hb2.output, hb2.size, hb2.block⟩
    clear hb2
    refine hK.out _ _ (fun _ => HSx.out _ HB2.out) ?_
    clear hK K
    unfold srcAgg
    (try simp only [Act.put, tkS])
    have hS0 : (fun u : World => u.cell? ⟨wb, 0, none⟩ = some (.pointer (some ⟨xb, 0, none⟩)) ∧ u.cell? ⟨ob, 1, none⟩ = some (.int .i64 A)) up := HSx.out _ HB2.out
    refine upTo_tk (i := 7) (v := ?v33_7) rfl (by kernel_rfl) (fun _ _ _ h => h) (by rfl) hS0 ?h33_7 ?r33_7
    case h33_7 => (intro u hu; (try dsimp only at hu); go_simp; first | done | with_reducible rfl)
    (try simp only [Act.put, tkS])
    refine upTo_tk (i := 8) (v := ?v33_8) rfl (by kernel_rfl) (fun _ _ _ h => h) (by rfl) hS0 ?h33_8 ?r33_8
    case h33_8 => (intro u hu; (try dsimp only at hu); go_simp; first | done | with_reducible rfl)
    (try simp only [Act.put, tkS])
    refine upTo_tk (i := 9) (v := ?v33_9) rfl (by kernel_rfl) (fun _ _ _ h => h) (by rfl) hS0 ?h33_9 ?r33_9
    case h33_9 => (intro u hu; (try dsimp only at hu); go_simp; first | done | with_reducible rfl)
    (try simp only [Act.put, tkS])
    clear hS0
    refine upTo_one (i := 10) (by kernel_rfl) rfl (fun K hK => ?_)
    go_simp
    refine hK.out _ _ (fun _ => HSx.out _ (HB2.out.alloc HB2.out.size _)) ?_
    clear hK K
    (try simp only [Act.put, tkS])
    refine upTo_one (i := 11) (by kernel_rfl) rfl (fun K hK => ?_)
    go_simp
    refine hK.out _ _ (fun _ => HSx.out _ (HB2.out.alloc HB2.out.size _)) ?_
    clear hK K
    (try simp only [Act.put, tkS])
    refine upTo_one (i := 12) (by kernel_rfl) rfl (fun K hK => ?_)
    go_simp
    refine hK.out _ _ (fun h => absurd rfl h) ?_
    clear hK K
    (try simp only [Act.put, tkS])
    refine upTo_done (by kernel_rfl) ?_
    obtain ⟨p, HV⟩ := hex (up.alloc (.cells T.cells.toArray 60))
    have hv : up.alloc (.cells #[.bool T.inn, .bool T.idle, .int .i64 T.mark, .int .i64 T.n, .int .i64 T.last] 60) = p := HV.out.symm
    rw [hv]
    obtain ⟨sbp, HSb⟩ := hex up.heap.size
    have HSp : Hid (Blk p sbp 60 T.cells) := by show Blk _ _ _ _; rw [HV.out, HSb.out]; exact blk_alloc _ _ _
    have HLp : Hid (Below p0.heap.size p0 p) := by show Below _ _ _; rw [HV.out]; exact HB2.out.alloc HB2.out.size _
    rw [← HSb.out]
    clear hv HV HSb HB2 HSx
    have HIp : Hid (WInv p wb xb rb X R a c l) := HIp0.out.below HLp.out
    have HOp : Hid (Blk p ob 32 (opCells 8 A E S)) := HOp0.out.below HLp.out HOp0.out.lt
    have HBp : Hid (Below w.heap.size w p) := HBp0.out.trans (HLp.out.mono HBp0.out.size)
    go_upto_region 7 with fail
    have bq := HIp.out.blk.cell 1
    have oq := HOp.out.cell 1
    simp only [opCells, List.getElem?_cons_zero, List.getElem?_cons_succ] at bq oq
    refine upTo_region (fun u : World => u.cell? ⟨wb, 1, none⟩ = some (.pointer (some ⟨rb, 0, none⟩)) ∧ u.cell? ⟨ob, 1, none⟩ = some (.int .i64 A)) 12 13 rfl (by kernel_rfl) ?_
    have hS0 : (fun u : World => u.cell? ⟨wb, 1, none⟩ = some (.pointer (some ⟨rb, 0, none⟩)) ∧ u.cell? ⟨ob, 1, none⟩ = some (.int .i64 A)) p.drew := ⟨bq, oq⟩
    refine upTo_tk (i := 0) (v := ?v34_0) rfl (by kernel_rfl) (fun _ _ _ h => h) (by rfl) hS0 ?h34_0 ?r34_0
    case h34_0 => (intro u hu; (try dsimp only at hu); go_simp; first | done | with_reducible rfl)
    (try simp only [Act.put, tkS])
    refine upTo_tk (i := 1) (v := ?v34_1) rfl (by kernel_rfl) (fun _ _ _ h => h) (by rfl) hS0 ?h34_1 ?r34_1
    case h34_1 => (intro u hu; (try dsimp only at hu); go_simp; first | done | with_reducible rfl)
    (try simp only [Act.put, tkS])
    refine upTo_tk (i := 2) (v := ?v34_2) rfl (by kernel_rfl) (fun _ _ _ h => h) (by rfl) hS0 ?h34_2 ?r34_2
    case h34_2 => (intro u hu; (try dsimp only at hu); go_simp; first | done | with_reducible rfl)
    (try simp only [Act.put, tkS])
    refine upTo_tk (i := 3) (v := ?v34_3) rfl (by kernel_rfl) (fun _ _ _ h => h) (by rfl) hS0 ?h34_3 ?r34_3
    case h34_3 => (intro u hu; (try dsimp only at hu); go_simp; first | done | with_reducible rfl)
    (try simp only [Act.put, tkS])
    refine upTo_tk (i := 4) (v := ?v34_4) rfl (by kernel_rfl) (fun _ _ _ h => h) (by rfl) hS0 ?h34_4 ?r34_4
    case h34_4 => (intro u hu; (try dsimp only at hu); go_simp; first | done | with_reducible rfl)
    (try simp only [Act.put, tkS])
    refine upTo_tk (i := 5) (v := ?v34_5) rfl (by kernel_rfl) (fun _ _ _ h => h) (by rfl) hS0 ?h34_5 ?r34_5
    case h34_5 => (intro u hu; (try dsimp only at hu); go_simp; first | done | with_reducible rfl)
    (try simp only [Act.put, tkS])
    clear hS0 bq oq
    have HSx : Hid (∀ v : World, Below p.heap.size p v → (fun u : World => u.cell? ⟨wb, 1, none⟩ = some (.pointer (some ⟨rb, 0, none⟩)) ∧ u.cell? ⟨ob, 1, none⟩ = some (.int .i64 A)) v) := by
      intro v hv
      exact ⟨(HIp.out.below hv).blk.cell 1, (HOp.out.below hv HOp.out.lt).cell 1⟩
    refine upTo_two (i := 6) (j := 10) (by kernel_rfl) rfl rfl (fun K hK => ?_) (fun K hK => ?_)
    · skip
      go_simp
      refine (hR _ (HIp.out.mr.drew)).mono ?_
      rintro e uq ⟨rfl, hb2⟩
      have HB2 : Hid (Below p.heap.size p uq) := ⟨hb2.os, hb2.tape, hb2.output, hb2.size, hb2.block⟩
      clear hb2
      refine hK.out _ _ (fun _ => HSx.out _ HB2.out) ?_
      clear hK K
      unfold srcAgg
      (try simp only [Act.put, tkS])
      have hS0 : (fun u : World => u.cell? ⟨wb, 1, none⟩ = some (.pointer (some ⟨rb, 0, none⟩)) ∧ u.cell? ⟨ob, 1, none⟩ = some (.int .i64 A)) uq := HSx.out _ HB2.out
      refine upTo_tk (i := 7) (v := ?v35_7) rfl (by kernel_rfl) (fun _ _ _ h => h) (by rfl) hS0 ?h35_7 ?r35_7
      case h35_7 => (intro u hu; (try dsimp only at hu); go_simp; first | done | with_reducible rfl)
      (try simp only [Act.put, tkS])
      refine upTo_tk (i := 8) (v := ?v35_8) rfl (by kernel_rfl) (fun _ _ _ h => h) (by rfl) hS0 ?h35_8 ?r35_8
      case h35_8 => (intro u hu; (try dsimp only at hu); go_simp; first | done | with_reducible rfl)
      (try simp only [Act.put, tkS])
      refine upTo_tk (i := 9) (v := ?v35_9) rfl (by kernel_rfl) (fun _ _ _ h => h) (by rfl) hS0 ?h35_9 ?r35_9
      case h35_9 => (intro u hu; (try dsimp only at hu); go_simp; first | done | with_reducible rfl)
      (try simp only [Act.put, tkS])
      clear hS0
      refine upTo_one (i := 10) (by kernel_rfl) rfl (fun K hK => ?_)
      go_simp
      refine hK.out _ _ (fun _ => HSx.out _ (HB2.out.alloc HB2.out.size _)) ?_
      clear hK K
      (try simp only [Act.put, tkS])
      refine upTo_one (i := 11) (by kernel_rfl) rfl (fun K hK => ?_)
      go_simp
      refine hK.out _ _ (fun _ => HSx.out _ (HB2.out.alloc HB2.out.size _)) ?_
      clear hK K
      (try simp only [Act.put, tkS])
      refine upTo_one (i := 12) (by kernel_rfl) rfl (fun K hK => ?_)
      go_simp
      refine hK.out _ _ (fun h => absurd rfl h) ?_
      clear hK K
      (try simp only [Act.put, tkS])
      refine upTo_done (by kernel_rfl) ?_
      obtain ⟨q, HV⟩ := hex (uq.alloc (.cells T.cells.toArray 60))
      have hv : uq.alloc (.cells #[.bool T.inn, .bool T.idle, .int .i64 T.mark, .int .i64 T.n, .int .i64 T.last] 60) = q := HV.out.symm
      rw [hv]
      obtain ⟨sbq, HSb⟩ := hex uq.heap.size
      have HSq : Hid (Blk q sbq 60 T.cells) := by show Blk _ _ _ _; rw [HV.out, HSb.out]; exact blk_alloc _ _ _
      have HLq : Hid (Below p.heap.size p q) := by show Below _ _ _; rw [HV.out]; exact HB2.out.alloc HB2.out.size _
      rw [← HSb.out]
      clear hv HV HSb HB2 HSx
      have HIq : Hid (WInv q wb xb rb X R a c l) := HIp.out.below HLq.out
      have HOq : Hid (Blk q ob 32 (opCells 8 A E S)) := HOp.out.below HLq.out HOp.out.lt
      have HBq : Hid (Below w.heap.size w q) := HBp.out.trans (HLq.out.mono HBp.out.size)
      have HSx6 : Hid (Blk q sbp 60 T.cells) := HSp.out.below HLq.out HSp.out.lt
      have x0 := HSx6.out.cell 0
      have x1 := HSx6.out.cell 1
      have x2 := HSx6.out.cell 2
      have x3 := HSx6.out.cell 3
      have x4 := HSx6.out.cell 4
      have y0 := HSq.out.cell 0
      have y1 := HSq.out.cell 1
      have y2 := HSq.out.cell 2
      have y3 := HSq.out.cell 3
      have y4 := HSq.out.cell 4
      simp only [Told.cells, List.getElem?_cons_zero, List.getElem?_cons_succ] at x0 x1 x2 x3 x4 y0 y1 y2 y3 y4
      go_wp2_with (go_at_call 12; refine (num_any _ _).mono ?_; rintro e w' ⟨rfl, rfl⟩)
      go_ret
      exact ⟨rfl, HBq.out⟩
    · skip
      go_simp
      refine hK.out _ _ (fun _ => HSx.out _ (((Below.refl _ p).alloc (Nat.le_refl _) _).drew)) ?_
      clear hK K
      (try simp only [Act.put, tkS])
      obtain ⟨zq, HZ⟩ := hex (p.drew.alloc (.cells z5.toArray 60))
      have hz : p.drew.alloc (.cells #[.bool false, .bool false, .int .i64 0, .int .i64 0, .int .i64 0] 60) = zq := HZ.out.symm
      (try rw [hz])
      have hz' : (p.alloc (.cells #[.bool false, .bool false, .int .i64 0, .int .i64 0, .int .i64 0] 60)).drew = zq := HZ.out.symm
      (try rw [hz'])
      obtain ⟨sbq, HSb⟩ := hex p.heap.size
      have HBz : Hid (Below p.heap.size p zq) := by show Below _ _ _; rw [HZ.out]; exact (((Below.refl _ p).drew).alloc (Nat.le_refl _) _)
      have HZ5 : Hid (Blk zq sbq 60 z5) := by show Blk _ _ _ _; rw [HZ.out, HSb.out]; exact blk_alloc _ _ _
      (try rw [← HSb.out])
      clear hz hz' HZ
      refine upTo_one (i := 6) (by kernel_rfl) rfl (fun K hK => ?_)
      go_simp
      refine (hR _ (HIp.out.mr.below HBz.out)).mono ?_
      rintro e uq ⟨rfl, hb2⟩
      have HB2 : Hid (Below p.heap.size p uq) := HBz.out.trans (hb2.mono HBz.out.size)
      have HZ2 : Hid (Blk uq sbq 60 z5) := HZ5.out.below hb2 HZ5.out.lt
      clear hb2
      refine hK.out _ _ (fun _ => HSx.out _ HB2.out) ?_
      clear hK K
      unfold srcAgg
      (try simp only [Act.put, tkS])
      have hS0 : (fun u : World => u.cell? ⟨wb, 1, none⟩ = some (.pointer (some ⟨rb, 0, none⟩)) ∧ u.cell? ⟨ob, 1, none⟩ = some (.int .i64 A)) uq := HSx.out _ HB2.out
      refine upTo_tk (i := 7) (v := ?v36_7) rfl (by kernel_rfl) (fun _ _ _ h => h) (by rfl) hS0 ?h36_7 ?r36_7
      case h36_7 => (intro u hu; (try dsimp only at hu); go_simp; first | done | with_reducible rfl)
      (try simp only [Act.put, tkS])
      refine upTo_tk (i := 8) (v := ?v36_8) rfl (by kernel_rfl) (fun _ _ _ h => h) (by rfl) hS0 ?h36_8 ?r36_8
      case h36_8 => (intro u hu; (try dsimp only at hu); go_simp; first | done | with_reducible rfl)
      (try simp only [Act.put, tkS])
      refine upTo_tk (i := 9) (v := ?v36_9) rfl (by kernel_rfl) (fun _ _ _ h => h) (by rfl) hS0 ?h36_9 ?r36_9
      case h36_9 => (intro u hu; (try dsimp only at hu); go_simp; first | done | with_reducible rfl)
      (try simp only [Act.put, tkS])
      clear hS0
      have hsx : sbq = p.heap.size := HSb.out
      have HSX : Hid (sbq = p.heap.size) := hsx
      clear hsx
      have r0 := HZ2.out.cell 0
      have r1 := HZ2.out.cell 1
      have r2 := HZ2.out.cell 2
      have r3 := HZ2.out.cell 3
      have r4 := HZ2.out.cell 4
      have g0 := HZ2.out.frozen 0
      have g1 := HZ2.out.frozen 1
      have g2 := HZ2.out.frozen 2
      have g3 := HZ2.out.frozen 3
      have g4 := HZ2.out.frozen 4
      simp only [z5, List.getElem?_cons_zero, List.getElem?_cons_succ] at r0 r1 r2 r3 r4
      have HBs : Hid (Below p.heap.size p (((((uq.setCell ⟨sbq, 0, none⟩ (.bool T.inn)).setCell ⟨sbq, 1, none⟩ (.bool T.idle)).setCell ⟨sbq, 2, none⟩ (.int .i64 T.mark)).setCell ⟨sbq, 3, none⟩ (.int .i64 T.n)).setCell ⟨sbq, 4, none⟩ (.int .i64 T.last))) := by show Below _ _ _; have := HSX.out; subst this; exact HB2.out.trans below_set5
      refine upTo_one (i := 11) (by kernel_rfl) rfl (fun K hK => ?_)
      go_simp
      refine hK.out _ _ (fun _ => HSx.out _ HBs.out) ?_
      clear hK K
      (try simp only [Act.put, tkS])
      refine upTo_one (i := 12) (by kernel_rfl) rfl (fun K hK => ?_)
      go_simp
      refine hK.out _ _ (fun h => absurd rfl h) ?_
      clear hK K
      (try simp only [Act.put, tkS])
      refine upTo_done (by kernel_rfl) ?_
      obtain ⟨q, HV⟩ := hex (((((uq.setCell ⟨sbq, 0, none⟩ (.bool T.inn)).setCell ⟨sbq, 1, none⟩ (.bool T.idle)).setCell ⟨sbq, 2, none⟩ (.int .i64 T.mark)).setCell ⟨sbq, 3, none⟩ (.int .i64 T.n)).setCell ⟨sbq, 4, none⟩ (.int .i64 T.last))
      rw [← HV.out]
      have HSq : Hid (Blk q sbq 60 T.cells) := by
        show Blk _ _ _ _
        rw [HV.out]
        have := ((((HZ2.out.set 0 (.bool T.inn)).set 1 (.bool T.idle)).set 2 (.int .i64 T.mark)).set 3 (.int .i64 T.n)).set 4 (.int .i64 T.last)
        simpa [z5, Told.cells] using this
      have HLq : Hid (Below p.heap.size p q) := by show Below _ _ _; rw [HV.out]; exact HBs.out
      clear HV HBs r0 r1 r2 r3 r4 g0 g1 g2 g3 g4 HZ2 HZ5 HBz HSX HSb HSx HB2
      have HIq : Hid (WInv q wb xb rb X R a c l) := HIp.out.below HLq.out
      have HOq : Hid (Blk q ob 32 (opCells 8 A E S)) := HOp.out.below HLq.out HOp.out.lt
      have HBq : Hid (Below w.heap.size w q) := HBp.out.trans (HLq.out.mono HBp.out.size)
      have HSx6 : Hid (Blk q sbp 60 T.cells) := HSp.out.below HLq.out HSp.out.lt
      have x0 := HSx6.out.cell 0
      have x1 := HSx6.out.cell 1
      have x2 := HSx6.out.cell 2
      have x3 := HSx6.out.cell 3
      have x4 := HSx6.out.cell 4
      have y0 := HSq.out.cell 0
      have y1 := HSq.out.cell 1
      have y2 := HSq.out.cell 2
      have y3 := HSq.out.cell 3
      have y4 := HSq.out.cell 4
      simp only [Told.cells, List.getElem?_cons_zero, List.getElem?_cons_succ] at x0 x1 x2 x3 x4 y0 y1 y2 y3 y4
      go_wp2_with (go_at_call 12; refine (num_any _ _).mono ?_; rintro e w' ⟨rfl, rfl⟩)
      go_ret
      exact ⟨rfl, HBq.out⟩
  · skip
    go_simp
    refine hK.out _ _ (fun _ => HSx.out _ (((Below.refl _ p0).alloc (Nat.le_refl _) _).drew)) ?_
    clear hK K
    (try simp only [Act.put, tkS])
    obtain ⟨zp, HZ⟩ := hex (p0.drew.alloc (.cells z5.toArray 60))
    have hz : p0.drew.alloc (.cells #[.bool false, .bool false, .int .i64 0, .int .i64 0, .int .i64 0] 60) = zp := HZ.out.symm
    (try rw [hz])
    have hz' : (p0.alloc (.cells #[.bool false, .bool false, .int .i64 0, .int .i64 0, .int .i64 0] 60)).drew = zp := HZ.out.symm
    (try rw [hz'])
    obtain ⟨sbp, HSb⟩ := hex p0.heap.size
    have HBz : Hid (Below p0.heap.size p0 zp) := by show Below _ _ _; rw [HZ.out]; exact (((Below.refl _ p0).drew).alloc (Nat.le_refl _) _)
    have HZ5 : Hid (Blk zp sbp 60 z5) := by show Blk _ _ _ _; rw [HZ.out, HSb.out]; exact blk_alloc _ _ _
    (try rw [← HSb.out])
    clear hz hz' HZ
    refine upTo_one (i := 6) (by kernel_rfl) rfl (fun K hK => ?_)
    go_simp
    refine (hX _ (HIp0.out.mx.below HBz.out)).mono ?_
    rintro e up ⟨rfl, hb2⟩
    have HB2 : Hid (Below p0.heap.size p0 up) := HBz.out.trans (hb2.mono HBz.out.size)
    have HZ2 : Hid (Blk up sbp 60 z5) := HZ5.out.below hb2 HZ5.out.lt
    clear hb2
    refine hK.out _ _ (fun _ => HSx.out _ HB2.out) ?_
    clear hK K
    unfold srcAgg
    (try simp only [Act.put, tkS])
    have hS0 : (fun u : World => u.cell? ⟨wb, 0, none⟩ = some (.pointer (some ⟨xb, 0, none⟩)) ∧ u.cell? ⟨ob, 1, none⟩ = some (.int .i64 A)) up := HSx.out _ HB2.out
    refine upTo_tk (i := 7) (v := ?v37_7) rfl (by kernel_rfl) (fun _ _ _ h => h) (by rfl) hS0 ?h37_7 ?r37_7
    case h37_7 => (intro u hu; (try dsimp only at hu); go_simp; first | done | with_reducible rfl)
    (try simp only [Act.put, tkS])
    refine upTo_tk (i := 8) (v := ?v37_8) rfl (by kernel_rfl) (fun _ _ _ h => h) (by rfl) hS0 ?h37_8 ?r37_8
    case h37_8 => (intro u hu; (try dsimp only at hu); go_simp; first | done | with_reducible rfl)
    (try simp only [Act.put, tkS])
    refine upTo_tk (i := 9) (v := ?v37_9) rfl (by kernel_rfl) (fun _ _ _ h => h) (by rfl) hS0 ?h37_9 ?r37_9
    case h37_9 => (intro u hu; (try dsimp only at hu); go_simp; first | done | with_reducible rfl)
    (try simp only [Act.put, tkS])
    clear hS0
    have hsx : sbp = p0.heap.size := HSb.out
    have HSX : Hid (sbp = p0.heap.size) := hsx
    clear hsx
    have r0 := HZ2.out.cell 0
    have r1 := HZ2.out.cell 1
    have r2 := HZ2.out.cell 2
    have r3 := HZ2.out.cell 3
    have r4 := HZ2.out.cell 4
    have g0 := HZ2.out.frozen 0
    have g1 := HZ2.out.frozen 1
    have g2 := HZ2.out.frozen 2
    have g3 := HZ2.out.frozen 3
    have g4 := HZ2.out.frozen 4
    simp only [z5, List.getElem?_cons_zero, List.getElem?_cons_succ] at r0 r1 r2 r3 r4
    have HBs : Hid (Below p0.heap.size p0 (((((up.setCell ⟨sbp, 0, none⟩ (.bool T.inn)).setCell ⟨sbp, 1, none⟩ (.bool T.idle)).setCell ⟨sbp, 2, none⟩ (.int .i64 T.mark)).setCell ⟨sbp, 3, none⟩ (.int .i64 T.n)).setCell ⟨sbp, 4, none⟩ (.int .i64 T.last))) := by show Below _ _ _; have := HSX.out; subst this; exact HB2.out.trans below_set5
    refine upTo_one (i := 11) (by kernel_rfl) rfl (fun K hK => ?_)
    go_simp
    refine hK.out _ _ (fun _ => HSx.out _ HBs.out) ?_
    clear hK K
    (try simp only [Act.put, tkS])
    refine upTo_one (i := 12) (by kernel_rfl) rfl (fun K hK => ?_)
    go_simp
    refine hK.out _ _ (fun h => absurd rfl h) ?_
    clear hK K
    (try simp only [Act.put, tkS])
    refine upTo_done (by kernel_rfl) ?_
    obtain ⟨p, HV⟩ := hex (((((up.setCell ⟨sbp, 0, none⟩ (.bool T.inn)).setCell ⟨sbp, 1, none⟩ (.bool T.idle)).setCell ⟨sbp, 2, none⟩ (.int .i64 T.mark)).setCell ⟨sbp, 3, none⟩ (.int .i64 T.n)).setCell ⟨sbp, 4, none⟩ (.int .i64 T.last))
    rw [← HV.out]
    have HSp : Hid (Blk p sbp 60 T.cells) := by
      show Blk _ _ _ _
      rw [HV.out]
      have := ((((HZ2.out.set 0 (.bool T.inn)).set 1 (.bool T.idle)).set 2 (.int .i64 T.mark)).set 3 (.int .i64 T.n)).set 4 (.int .i64 T.last)
      simpa [z5, Told.cells] using this
    have HLp : Hid (Below p0.heap.size p0 p) := by show Below _ _ _; rw [HV.out]; exact HBs.out
    clear HV HBs r0 r1 r2 r3 r4 g0 g1 g2 g3 g4 HZ2 HZ5 HBz HSX HSb HSx HB2
    have HIp : Hid (WInv p wb xb rb X R a c l) := HIp0.out.below HLp.out
    have HOp : Hid (Blk p ob 32 (opCells 8 A E S)) := HOp0.out.below HLp.out HOp0.out.lt
    have HBp : Hid (Below w.heap.size w p) := HBp0.out.trans (HLp.out.mono HBp0.out.size)
    go_upto_region 7 with fail
    have bq := HIp.out.blk.cell 1
    have oq := HOp.out.cell 1
    simp only [opCells, List.getElem?_cons_zero, List.getElem?_cons_succ] at bq oq
    refine upTo_region (fun u : World => u.cell? ⟨wb, 1, none⟩ = some (.pointer (some ⟨rb, 0, none⟩)) ∧ u.cell? ⟨ob, 1, none⟩ = some (.int .i64 A)) 12 13 rfl (by kernel_rfl) ?_
    have hS0 : (fun u : World => u.cell? ⟨wb, 1, none⟩ = some (.pointer (some ⟨rb, 0, none⟩)) ∧ u.cell? ⟨ob, 1, none⟩ = some (.int .i64 A)) p.drew := ⟨bq, oq⟩
    refine upTo_tk (i := 0) (v := ?v38_0) rfl (by kernel_rfl) (fun _ _ _ h => h) (by rfl) hS0 ?h38_0 ?r38_0
    case h38_0 => (intro u hu; (try dsimp only at hu); go_simp; first | done | with_reducible rfl)
    (try simp only [Act.put, tkS])
    refine upTo_tk (i := 1) (v := ?v38_1) rfl (by kernel_rfl) (fun _ _ _ h => h) (by rfl) hS0 ?h38_1 ?r38_1
    case h38_1 => (intro u hu; (try dsimp only at hu); go_simp; first | done | with_reducible rfl)
    (try simp only [Act.put, tkS])
    refine upTo_tk (i := 2) (v := ?v38_2) rfl (by kernel_rfl) (fun _ _ _ h => h) (by rfl) hS0 ?h38_2 ?r38_2
    case h38_2 => (intro u hu; (try dsimp only at hu); go_simp; first | done | with_reducible rfl)
    (try simp only [Act.put, tkS])
    refine upTo_tk (i := 3) (v := ?v38_3) rfl (by kernel_rfl) (fun _ _ _ h => h) (by rfl) hS0 ?h38_3 ?r38_3
    case h38_3 => (intro u hu; (try dsimp only at hu); go_simp; first | done | with_reducible rfl)
    (try simp only [Act.put, tkS])
    refine upTo_tk (i := 4) (v := ?v38_4) rfl (by kernel_rfl) (fun _ _ _ h => h) (by rfl) hS0 ?h38_4 ?r38_4
    case h38_4 => (intro u hu; (try dsimp only at hu); go_simp; first | done | with_reducible rfl)
    (try simp only [Act.put, tkS])
    refine upTo_tk (i := 5) (v := ?v38_5) rfl (by kernel_rfl) (fun _ _ _ h => h) (by rfl) hS0 ?h38_5 ?r38_5
    case h38_5 => (intro u hu; (try dsimp only at hu); go_simp; first | done | with_reducible rfl)
    (try simp only [Act.put, tkS])
    clear hS0 bq oq
    have HSx : Hid (∀ v : World, Below p.heap.size p v → (fun u : World => u.cell? ⟨wb, 1, none⟩ = some (.pointer (some ⟨rb, 0, none⟩)) ∧ u.cell? ⟨ob, 1, none⟩ = some (.int .i64 A)) v) := by
      intro v hv
      exact ⟨(HIp.out.below hv).blk.cell 1, (HOp.out.below hv HOp.out.lt).cell 1⟩
    refine upTo_two (i := 6) (j := 10) (by kernel_rfl) rfl rfl (fun K hK => ?_) (fun K hK => ?_)
    · skip
      go_simp
      refine (hR _ (HIp.out.mr.drew)).mono ?_
      rintro e uq ⟨rfl, hb2⟩
      have HB2 : Hid (Below p.heap.size p uq) := ⟨hb2.os, hb2.tape, hb2.output, hb2.size, hb2.block⟩
      clear hb2
      refine hK.out _ _ (fun _ => HSx.out _ HB2.out) ?_
      clear hK K
      unfold srcAgg
      (try simp only [Act.put, tkS])
      have hS0 : (fun u : World => u.cell? ⟨wb, 1, none⟩ = some (.pointer (some ⟨rb, 0, none⟩)) ∧ u.cell? ⟨ob, 1, none⟩ = some (.int .i64 A)) uq := HSx.out _ HB2.out
      refine upTo_tk (i := 7) (v := ?v39_7) rfl (by kernel_rfl) (fun _ _ _ h => h) (by rfl) hS0 ?h39_7 ?r39_7
      case h39_7 => (intro u hu; (try dsimp only at hu); go_simp; first | done | with_reducible rfl)
      (try simp only [Act.put, tkS])
      refine upTo_tk (i := 8) (v := ?v39_8) rfl (by kernel_rfl) (fun _ _ _ h => h) (by rfl) hS0 ?h39_8 ?r39_8
      case h39_8 => (intro u hu; (try dsimp only at hu); go_simp; first | done | with_reducible rfl)
      (try simp only [Act.put, tkS])
      refine upTo_tk (i := 9) (v := ?v39_9) rfl (by kernel_rfl) (fun _ _ _ h => h) (by rfl) hS0 ?h39_9 ?r39_9
      case h39_9 => (intro u hu; (try dsimp only at hu); go_simp; first | done | with_reducible rfl)
      (try simp only [Act.put, tkS])
      clear hS0
      refine upTo_one (i := 10) (by kernel_rfl) rfl (fun K hK => ?_)
      go_simp
      refine hK.out _ _ (fun _ => HSx.out _ (HB2.out.alloc HB2.out.size _)) ?_
      clear hK K
      (try simp only [Act.put, tkS])
      refine upTo_one (i := 11) (by kernel_rfl) rfl (fun K hK => ?_)
      go_simp
      refine hK.out _ _ (fun _ => HSx.out _ (HB2.out.alloc HB2.out.size _)) ?_
      clear hK K
      (try simp only [Act.put, tkS])
      refine upTo_one (i := 12) (by kernel_rfl) rfl (fun K hK => ?_)
      go_simp
      refine hK.out _ _ (fun h => absurd rfl h) ?_
      clear hK K
      (try simp only [Act.put, tkS])
      refine upTo_done (by kernel_rfl) ?_
      obtain ⟨q, HV⟩ := hex (uq.alloc (.cells T.cells.toArray 60))
      have hv : uq.alloc (.cells #[.bool T.inn, .bool T.idle, .int .i64 T.mark, .int .i64 T.n, .int .i64 T.last] 60) = q := HV.out.symm
      rw [hv]
      obtain ⟨sbq, HSb⟩ := hex uq.heap.size
      have HSq : Hid (Blk q sbq 60 T.cells) := by show Blk _ _ _ _; rw [HV.out, HSb.out]; exact blk_alloc _ _ _
      have HLq : Hid (Below p.heap.size p q) := by show Below _ _ _; rw [HV.out]; exact HB2.out.alloc HB2.out.size _
      rw [← HSb.out]
      clear hv HV HSb HB2 HSx
      have HIq : Hid (WInv q wb xb rb X R a c l) := HIp.out.below HLq.out
      have HOq : Hid (Blk q ob 32 (opCells 8 A E S)) := HOp.out.below HLq.out HOp.out.lt
      have HBq : Hid (Below w.heap.size w q) := HBp.out.trans (HLq.out.mono HBp.out.size)
      have HSx6 : Hid (Blk q sbp 60 T.cells) := HSp.out.below HLq.out HSp.out.lt
      have x0 := HSx6.out.cell 0
      have x1 := HSx6.out.cell 1
      have x2 := HSx6.out.cell 2
      have x3 := HSx6.out.cell 3
      have x4 := HSx6.out.cell 4
      have y0 := HSq.out.cell 0
      have y1 := HSq.out.cell 1
      have y2 := HSq.out.cell 2
      have y3 := HSq.out.cell 3
      have y4 := HSq.out.cell 4
      simp only [Told.cells, List.getElem?_cons_zero, List.getElem?_cons_succ] at x0 x1 x2 x3 x4 y0 y1 y2 y3 y4
      go_wp2_with (go_at_call 12; refine (num_any _ _).mono ?_; rintro e w' ⟨rfl, rfl⟩)
      go_ret
      exact ⟨rfl, HBq.out⟩
    · skip
      go_simp
      refine hK.out _ _ (fun _ => HSx.out _ (((Below.refl _ p).alloc (Nat.le_refl _) _).drew)) ?_
      clear hK K
      (try simp only [Act.put, tkS])
      obtain ⟨zq, HZ⟩ := hex (p.drew.alloc (.cells z5.toArray 60))
      have hz : p.drew.alloc (.cells #[.bool false, .bool false, .int .i64 0, .int .i64 0, .int .i64 0] 60) = zq := HZ.out.symm
      (try rw [hz])
      have hz' : (p.alloc (.cells #[.bool false, .bool false, .int .i64 0, .int .i64 0, .int .i64 0] 60)).drew = zq := HZ.out.symm
      (try rw [hz'])
      obtain ⟨sbq, HSb⟩ := hex p.heap.size
      have HBz : Hid (Below p.heap.size p zq) := by show Below _ _ _; rw [HZ.out]; exact (((Below.refl _ p).drew).alloc (Nat.le_refl _) _)
      have HZ5 : Hid (Blk zq sbq 60 z5) := by show Blk _ _ _ _; rw [HZ.out, HSb.out]; exact blk_alloc _ _ _
      (try rw [← HSb.out])
      clear hz hz' HZ
      refine upTo_one (i := 6) (by kernel_rfl) rfl (fun K hK => ?_)
      go_simp
      refine (hR _ (HIp.out.mr.below HBz.out)).mono ?_
      rintro e uq ⟨rfl, hb2⟩
      have HB2 : Hid (Below p.heap.size p uq) := HBz.out.trans (hb2.mono HBz.out.size)
      have HZ2 : Hid (Blk uq sbq 60 z5) := HZ5.out.below hb2 HZ5.out.lt
      clear hb2
      refine hK.out _ _ (fun _ => HSx.out _ HB2.out) ?_
      clear hK K
      unfold srcAgg
      (try simp only [Act.put, tkS])
      have hS0 : (fun u : World => u.cell? ⟨wb, 1, none⟩ = some (.pointer (some ⟨rb, 0, none⟩)) ∧ u.cell? ⟨ob, 1, none⟩ = some (.int .i64 A)) uq := HSx.out _ HB2.out
      refine upTo_tk (i := 7) (v := ?v40_7) rfl (by kernel_rfl) (fun _ _ _ h => h) (by rfl) hS0 ?h40_7 ?r40_7
      case h40_7 => (intro u hu; (try dsimp only at hu); go_simp; first | done | with_reducible rfl)
      (try simp only [Act.put, tkS])
      refine upTo_tk (i := 8) (v := ?v40_8) rfl (by kernel_rfl) (fun _ _ _ h => h) (by rfl) hS0 ?h40_8 ?r40_8
      case h40_8 => (intro u hu; (try dsimp only at hu); go_simp; first | done | with_reducible rfl)
      (try simp only [Act.put, tkS])
      refine upTo_tk (i := 9) (v := ?v40_9) rfl (by kernel_rfl) (fun _ _ _ h => h) (by rfl) hS0 ?h40_9 ?r40_9
      case h40_9 => (intro u hu; (try dsimp only at hu); go_simp; first | done | with_reducible rfl)
      (try simp only [Act.put, tkS])
      clear hS0
      have hsx : sbq = p.heap.size := HSb.out
      have HSX : Hid (sbq = p.heap.size) := hsx
      clear hsx
      have r0 := HZ2.out.cell 0
      have r1 := HZ2.out.cell 1
      have r2 := HZ2.out.cell 2
      have r3 := HZ2.out.cell 3
      have r4 := HZ2.out.cell 4
      have g0 := HZ2.out.frozen 0
      have g1 := HZ2.out.frozen 1
      have g2 := HZ2.out.frozen 2
      have g3 := HZ2.out.frozen 3
      have g4 := HZ2.out.frozen 4
      simp only [z5, List.getElem?_cons_zero, List.getElem?_cons_succ] at r0 r1 r2 r3 r4
      have HBs : Hid (Below p.heap.size p (((((uq.setCell ⟨sbq, 0, none⟩ (.bool T.inn)).setCell ⟨sbq, 1, none⟩ (.bool T.idle)).setCell ⟨sbq, 2, none⟩ (.int .i64 T.mark)).setCell ⟨sbq, 3, none⟩ (.int .i64 T.n)).setCell ⟨sbq, 4, none⟩ (.int .i64 T.last))) := by show Below _ _ _; have := HSX.out; subst this; exact HB2.out.trans below_set5
      refine upTo_one (i := 11) (by kernel_rfl) rfl (fun K hK => ?_)
      go_simp
      refine hK.out _ _ (fun _ => HSx.out _ HBs.out) ?_
      clear hK K
      (try simp only [Act.put, tkS])
      refine upTo_one (i := 12) (by kernel_rfl) rfl (fun K hK => ?_)
      go_simp
      refine hK.out _ _ (fun h => absurd rfl h) ?_
      clear hK K
      (try simp only [Act.put, tkS])
      refine upTo_done (by kernel_rfl) ?_
      obtain ⟨q, HV⟩ := hex (((((uq.setCell ⟨sbq, 0, none⟩ (.bool T.inn)).setCell ⟨sbq, 1, none⟩ (.bool T.idle)).setCell ⟨sbq, 2, none⟩ (.int .i64 T.mark)).setCell ⟨sbq, 3, none⟩ (.int .i64 T.n)).setCell ⟨sbq, 4, none⟩ (.int .i64 T.last))
      rw [← HV.out]
      have HSq : Hid (Blk q sbq 60 T.cells) := by
        show Blk _ _ _ _
        rw [HV.out]
        have := ((((HZ2.out.set 0 (.bool T.inn)).set 1 (.bool T.idle)).set 2 (.int .i64 T.mark)).set 3 (.int .i64 T.n)).set 4 (.int .i64 T.last)
        simpa [z5, Told.cells] using this
      have HLq : Hid (Below p.heap.size p q) := by show Below _ _ _; rw [HV.out]; exact HBs.out
      clear HV HBs r0 r1 r2 r3 r4 g0 g1 g2 g3 g4 HZ2 HZ5 HBz HSX HSb HSx HB2
      have HIq : Hid (WInv q wb xb rb X R a c l) := HIp.out.below HLq.out
      have HOq : Hid (Blk q ob 32 (opCells 8 A E S)) := HOp.out.below HLq.out HOp.out.lt
      have HBq : Hid (Below w.heap.size w q) := HBp.out.trans (HLq.out.mono HBp.out.size)
      have HSx6 : Hid (Blk q sbp 60 T.cells) := HSp.out.below HLq.out HSp.out.lt
      have x0 := HSx6.out.cell 0
      have x1 := HSx6.out.cell 1
      have x2 := HSx6.out.cell 2
      have x3 := HSx6.out.cell 3
      have x4 := HSx6.out.cell 4
      have y0 := HSq.out.cell 0
      have y1 := HSq.out.cell 1
      have y2 := HSq.out.cell 2
      have y3 := HSq.out.cell 3
      have y4 := HSq.out.cell 4
      simp only [Told.cells, List.getElem?_cons_zero, List.getElem?_cons_succ] at x0 x1 x2 x3 x4 y0 y1 y2 y3 y4
      go_wp2_with (go_at_call 12; refine (num_any _ _).mono ?_; rintro e w' ⟨rfl, rfl⟩)
      go_ret
      exact ⟨rfl, HBq.out⟩
set_option maxRecDepth 100000 in
set_option maxHeartbeats 4000000 in
theorem asks_log (wb xb rb : Nat) (X : Eng) (R : Ref) (a : Option Addr) (c : Nat) (l : Lz) (A : Int) (E : Ev) (S : ByteArray) (w : World) (h : WInv w wb xb rb X R a c l) (hs : SaneX X) (hall : R.all.length ≤ 1000) (hsim : Sim X R) (hl : l.length ≤ 5000000000000) :
    Calls Tryz.prog 6 #[.pointer (some ⟨wb, 0, none⟩), opVal 9 A E S] w fun e w' => e = .returned (.bool true) ∧ ∃ a' c' E', WInv w' wb xb rb X R a' c' (l.more E') ∧ Kept (fun k => k = wb ∨ bk a = some k) w w' ∧ (∀ k, bk a' = some k → bk a = some k ∨ w.heap.size ≤ k) := by
  have hlen := hs.log
  obtain ⟨p0, HW1⟩ := hex (w.alloc (.cells (opCells 9 A E S).toArray 32))
  have HBp0 : Hid (Below w.heap.size w p0) := by show Below _ _ _; rw [HW1.out]; exact (Below.refl _ _).alloc (Nat.le_refl _) _
  have HIp0 : Hid (WInv p0 wb xb rb X R a c l) := h.below HBp0.out
  obtain ⟨ob, HOb⟩ := hex w.heap.size
  have HOp0 : Hid (Blk p0 ob 32 (opCells 9 A E S)) := by show Blk _ _ _ _; rw [HW1.out, HOb.out]; exact blk_alloc _ _ _
  have hw1 : w.alloc (.cells #[.int .i64 9, .int .i64 A, .int .i64 E.src, .int .i64 E.seq, .int .i64 E.ts, .int .i64 E.kind, .int .i64 E.val, .string S] 32) = p0 := HW1.out.symm
  unfold opVal
  go_enter Tryz.func6, Tryz.ntmps6
  go_upto_region 1 with fail
  rw [← HOb.out]
  clear hw1 HW1 h
  have o0 := HOp0.out.cell 0
  have b0 := HIp0.out.blk.cell 0
  have b1 := HIp0.out.blk.cell 1
  simp only [opCells, List.getElem?_cons_zero, List.getElem?_cons_succ] at o0 b0 b1
  clear hs
  obtain ⟨L, HLL⟩ := hex X.log
  have hX : Hid (∀ (w : World), MemX w xb X → Calls Tryz.prog 16 #[.pointer (some ⟨xb, 0, none⟩)] w fun e w' => ∃ (a : Option Addr) (c : Nat), e = .returned (.slice a L.length c) ∧ w'.ownsRow w.heap.size 30 5 (.slice a L.length c) L.length (evs L) ∧ Below w.heap.size w w') := by
    intro w h; rw [HLL.out]; exact xlog_any xb X w h hlen
  rw [← HLL.out] at hlen
  have hR : Hid (∀ (w : World), MemR w rb R → Calls Tryz.prog 18 #[.pointer (some ⟨rb, 0, none⟩)] w fun e w' => ∃ (a : Option Addr) (c : Nat), e = .returned (.slice a L.length c) ∧ w'.ownsRow w.heap.size 30 5 (.slice a L.length c) L.length (evs L) ∧ Below w.heap.size w w') := by
    intro w h
    refine (rlog_any rb R w h hall).mono ?_
    rintro e w' ⟨n, a, c, hb, rfl, h1, h2⟩
    rw [sim_log hsim n hb, ← HLL.out] at h1
    rw [sim_log hsim n hb, ← HLL.out]
    exact ⟨a, c, rfl, h1, h2⟩
  clear hsim
  go_upto_region 11 with (go_at_call 16; refine (hX.out _ HIp0.out.mx).mono ?_; rintro e p1 ⟨sa, sc, rfl, hrow, hb1⟩)
  have HB1 : Hid (Below p0.heap.size p0 p1) := hb1
  have HR1 : Hid (p1.ownsRow p0.heap.size 30 5 (.slice sa L.length sc) L.length (evs L)) := hrow
  have HI1 : Hid (WInv p1 wb xb rb X R a c l) := HIp0.out.below HB1.out
  clear hb1 hrow b0 b1
  have b1 := HI1.out.blk.cell 1
  simp only [List.getElem?_cons_zero, List.getElem?_cons_succ] at b1
  go_upto_region 12 with (first
    | (go_at_call 18; refine (hR.out _ HI1.out.mr).mono ?_; rintro e p2 ⟨ra, rc, rfl, hrow2, hb2⟩; have HB2 : Hid (Below p1.heap.size p1 p2) := hb2; have HR2 : Hid (Row p2 30 5 ra L.length rc (evs L)) := toRow hrow2; have HR1' : Hid (Row p2 30 5 sa L.length sc (evs L)) := ownsRow_of_heap (toRow HR1.out) (fun k hk => HB2.out.block k hk); clear hrow2 hb2)
    | (go_at_call 17; refine (sameEvents_eq L sa ra sc rc _ HR1'.out HR2.out (by omega)).mono ?_; rintro e p3 ⟨rfl, nq, hq⟩; have HQ : Hid (p3 = p2.drewN nq) := hq; clear hq))
  have HB3 : Hid (Below p1.heap.size p1 p3) := by show Below _ _ _; rw [HQ.out]; exact bdrewN HB2.out nq
  have HI3 : Hid (WInv p3 wb xb rb X R a c l) := HI1.out.below HB3.out
  have HR3 : Hid (Row p3 30 5 sa L.length sc (evs L)) := ownsRow_of_heap (toRow HR1.out) (fun k hk => HB3.out.block k hk)
  have HFr : Hid (∀ k, bk sa = some k → p0.heap.size ≤ k) := fun k e => (HR1.out.lt k (by rw [bk_own]; exact e)).1
  have hwl := HIp0.out.blk.lt
  go_wp2_with (go_at_call 19; refine (own1_any wb _ _ _ _ a c l.e sa sc L _ HI3.out.blk HI3.out.ls.le (Nat.le_trans (Nat.le_add_right _ _) hl) HR3.out hlen (fun e => by have := HFr.out _ e; omega) (fun k e => ⟨fun f => by have := HIp0.out.ls.le.row.lt f; have := HFr.out _ e; omega, fun f => by have := HIp0.out.ls.le.lt k f; have := HFr.out _ e; omega⟩) HI3.out.d3 (fun f => HI3.out.d4 (zfp_e f)) (fun k e f => HI3.out.d5 k e (zfp_e f))).mono ?_; rintro e p4 ⟨rfl, hown⟩)
  go_ret
  have hz0 := HBp0.out.size
  have hz1 := HB1.out.size
  have hz3 := HB3.out.size
  obtain ⟨a', c', E', hI, hkp, ha'⟩ := HI3.out.own (fun k e => ⟨by have := HFr.out _ e; omega, fun f => by have := HIp0.out.mx.fp_lt k f; have := HFr.out _ e; omega, fun f => by have := HIp0.out.mr.fp_lt k f; have := HFr.out _ e; omega, fun f => by have := HIp0.out.ls.zfp_lt k f; have := HFr.out _ e; omega⟩) hown
  refine ⟨rfl, a', c', E', hI, ?_, ?_⟩
  · refine (below_kept ((HBp0.out.trans (HB1.out.mono hz0)).trans (HB3.out.mono (by omega))) _).trans' hkp (fun i hi e => ?_)
    rcases e with e | e | e
    · exact Or.inl e
    · exact Or.inr e
    · have := HFr.out i e; omega
  · intro k hk
    rcases ha' k hk with e | e
    · exact Or.inl e
    · right; omega
set_option maxRecDepth 100000 in
set_option maxHeartbeats 4000000 in
theorem asks_late (wb xb rb : Nat) (X : Eng) (R : Ref) (a : Option Addr) (c : Nat) (l : Lz) (A : Int) (E : Ev) (S : ByteArray) (w : World) (h : WInv w wb xb rb X R a c l) (hs : SaneX X) (hlt : X.late = R.aside) (hl : l.length ≤ 5000000000000) :
    Calls Tryz.prog 6 #[.pointer (some ⟨wb, 0, none⟩), opVal 10 A E S] w fun e w' => e = .returned (.bool true) ∧ ∃ a' c' E', WInv w' wb xb rb X R a' c' (l.more E') ∧ Kept (fun k => k = wb ∨ bk a = some k) w w' ∧ (∀ k, bk a' = some k → bk a = some k ∨ w.heap.size ≤ k) := by
  have hlen := hs.late
  obtain ⟨p0, HW1⟩ := hex (w.alloc (.cells (opCells 10 A E S).toArray 32))
  have HBp0 : Hid (Below w.heap.size w p0) := by show Below _ _ _; rw [HW1.out]; exact (Below.refl _ _).alloc (Nat.le_refl _) _
  have HIp0 : Hid (WInv p0 wb xb rb X R a c l) := h.below HBp0.out
  obtain ⟨ob, HOb⟩ := hex w.heap.size
  have HOp0 : Hid (Blk p0 ob 32 (opCells 10 A E S)) := by show Blk _ _ _ _; rw [HW1.out, HOb.out]; exact blk_alloc _ _ _
  have hw1 : w.alloc (.cells #[.int .i64 10, .int .i64 A, .int .i64 E.src, .int .i64 E.seq, .int .i64 E.ts, .int .i64 E.kind, .int .i64 E.val, .string S] 32) = p0 := HW1.out.symm
  unfold opVal
  go_enter Tryz.func6, Tryz.ntmps6
  go_upto_region 1 with fail
  rw [← HOb.out]
  clear hw1 HW1 h
  have o0 := HOp0.out.cell 0
  have b0 := HIp0.out.blk.cell 0
  have b1 := HIp0.out.blk.cell 1
  simp only [opCells, List.getElem?_cons_zero, List.getElem?_cons_succ] at o0 b0 b1
  clear hs
  obtain ⟨L, HLL⟩ := hex X.late
  have hX : Hid (∀ (w : World), MemX w xb X → Calls Tryz.prog 20 #[.pointer (some ⟨xb, 0, none⟩)] w fun e w' => ∃ (a : Option Addr) (c : Nat), e = .returned (.slice a L.length c) ∧ w'.ownsRow w.heap.size 30 5 (.slice a L.length c) L.length (evs L) ∧ Below w.heap.size w w') := by
    intro w h; rw [HLL.out]; exact xlate_any xb X w h hlen
  rw [← HLL.out] at hlen
  go_upto_region 16 with (go_at_call 20; refine (hX.out _ HIp0.out.mx).mono ?_; rintro e p1 ⟨sa, sc, rfl, hrow, hb1⟩)
  have HB1 : Hid (Below p0.heap.size p0 p1) := hb1
  have HR1 : Hid (p1.ownsRow p0.heap.size 30 5 (.slice sa L.length sc) L.length (evs L)) := hrow
  have HI1 : Hid (WInv p1 wb xb rb X R a c l) := HIp0.out.below HB1.out
  clear hb1 hrow b0 b1
  have b1 := HI1.out.blk.cell 1
  simp only [List.getElem?_cons_zero, List.getElem?_cons_succ] at b1
  have hla : R.aside = L := by rw [HLL.out]; exact hlt.symm
  have r11 := HI1.out.mr.cells.2.2.2.1
  rw [hla] at r11
  have HR2 : Hid (Row p1 30 5 R.da L.length R.dc (evs L)) := by show Row _ _ _ _ _ _ _; have := HI1.out.mr.asd; rw [hla] at this; exact this
  clear hla hlt
  go_upto_region 17 with (go_at_call 17; refine (sameEvents_eq L sa R.da sc R.dc _ (toRow HR1.out) HR2.out (by omega)).mono ?_; rintro e p3 ⟨rfl, nq, hq⟩; have HQ : Hid (p3 = p1.drewN nq) := hq; clear hq)
  have HB3 : Hid (Below p1.heap.size p1 p3) := by show Below _ _ _; rw [HQ.out]; exact bdrewN (Below.refl _ _) nq
  have HI3 : Hid (WInv p3 wb xb rb X R a c l) := HI1.out.below HB3.out
  have HR3 : Hid (Row p3 30 5 sa L.length sc (evs L)) := ownsRow_of_heap (toRow HR1.out) (fun k hk => HB3.out.block k hk)
  have HFr : Hid (∀ k, bk sa = some k → p0.heap.size ≤ k) := fun k e => (HR1.out.lt k (by rw [bk_own]; exact e)).1
  have hwl := HIp0.out.blk.lt
  go_wp2_with (go_at_call 19; refine (own1_any wb _ _ _ _ a c l.e sa sc L _ HI3.out.blk HI3.out.ls.le (Nat.le_trans (Nat.le_add_right _ _) hl) HR3.out hlen (fun e => by have := HFr.out _ e; omega) (fun k e => ⟨fun f => by have := HIp0.out.ls.le.row.lt f; have := HFr.out _ e; omega, fun f => by have := HIp0.out.ls.le.lt k f; have := HFr.out _ e; omega⟩) HI3.out.d3 (fun f => HI3.out.d4 (zfp_e f)) (fun k e f => HI3.out.d5 k e (zfp_e f))).mono ?_; rintro e p4 ⟨rfl, hown⟩)
  go_ret
  have hz0 := HBp0.out.size
  have hz1 := HB1.out.size
  have hz3 := HB3.out.size
  obtain ⟨a', c', E', hI, hkp, ha'⟩ := HI3.out.own (fun k e => ⟨by have := HFr.out _ e; omega, fun f => by have := HIp0.out.mx.fp_lt k f; have := HFr.out _ e; omega, fun f => by have := HIp0.out.mr.fp_lt k f; have := HFr.out _ e; omega, fun f => by have := HIp0.out.ls.zfp_lt k f; have := HFr.out _ e; omega⟩) hown
  refine ⟨rfl, a', c', E', hI, ?_, ?_⟩
  · refine (below_kept ((HBp0.out.trans (HB1.out.mono hz0)).trans (HB3.out.mono (by omega))) _).trans' hkp (fun i hi e => ?_)
    rcases e with e | e | e
    · exact Or.inl e
    · exact Or.inr e
    · have := HFr.out i e; omega
  · intro k hk
    rcases ha' k hk with e | e
    · exact Or.inl e
    · right; omega
end Go.Proofs.YtghcololkgeoeabGreat
