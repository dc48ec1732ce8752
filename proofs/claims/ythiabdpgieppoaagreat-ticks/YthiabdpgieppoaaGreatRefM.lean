import Derived.Test.YthiabdpgieppoaaGreatMem
namespace Go.Proofs.YthiabdpgieppoaaGreat
open Go.RowKit
set_option linter.unusedVariables false
set_option linter.unusedSimpArgs false

/-- A configuration. -/
structure Cfg where
  sources : Int
  slack : Int
  policy : Int
  room : Int
  idle : Int
  pat : ByteArray
def Cfg.vals (c : Cfg) : List Value := [.int .i64 c.sources, .int .i64 c.slack, .int .i64 c.policy, .int .i64 c.room, .int .i64 c.idle, .string c.pat]

/-- A source of the document's engine, with the places of its two rows. -/
structure RSrc where
  inn : Bool
  sil : Int
  marks : List Int
  ma : Option Addr
  mc : Nat
  seqs : List Int
  qa : Option Addr
  qc : Nat
  rest : ByteArray
def ints (l : List Int) : List Value := l.map (Value.int .i64)
def RSrc.vals (r : RSrc) : List Value := [.bool r.inn, .int .i64 r.sil, .slice r.ma r.marks.length r.mc, .slice r.qa r.seqs.length r.qc, .string r.rest]
theorem RSrc.len (r : RSrc) : r.vals.length = 5 := rfl

/-- The document's engine, with the places of its rows. -/
structure Ref where
  c : Cfg
  steps : List (Int × Int)
  pa : Option Addr
  pc : Nat
  one : Bool
  win : Int
  srcs : List RSrc
  sg : Nat
  sc : Nat
  all : List Ev
  aa : Option Addr
  ac : Nat
  aside : List Ev
  da : Option Addr
  dc : Nat
  merged : Int
def Ref.vals (R : Ref) : List Value := R.c.vals ++ [.slice R.pa R.steps.length R.pc, .bool R.one, .int .i64 R.win, .slice (some ⟨R.sg, 0, none⟩) R.srcs.length R.sc, .slice R.aa R.all.length R.ac, .slice R.da R.aside.length R.dc, .int .i64 R.merged]
/-- its blocks -/
def Ref.fp (R : Ref) (b : Nat) : List (Option Nat) := [some b, bk R.pa, some R.sg, bk R.aa, bk R.da] ++ R.srcs.flatMap (fun r => [bk r.ma, bk r.qa])

/-- The document's engine lies at block b. -/
structure MemR (w : World) (b : Nat) (R : Ref) : Prop where
  eng : Blk w b 93 R.vals
  stp : Row w 122 2 R.pa R.steps.length R.pc (flat R.steps)
  src : Row w 96 5 (some ⟨R.sg, 0, none⟩) R.srcs.length R.sc (R.srcs.flatMap RSrc.vals)
  all : Row w 32 5 R.aa R.all.length R.ac (evs R.all)
  asd : Row w 32 5 R.da R.aside.length R.dc (evs R.aside)
  mrk : ∀ (i : Nat) r, R.srcs[i]? = some r → Row w 3 1 r.ma r.marks.length r.mc (ints r.marks)
  sqs : ∀ (i : Nat) r, R.srcs[i]? = some r → Row w 3 1 r.qa r.seqs.length r.qc (ints r.seqs)
  dis : PD (R.fp b)

/-- the bounds under which its numbers stay within an int -/
structure OkR (R : Ref) : Prop where
  srcs : R.srcs.length = R.c.sources.toNat
  n1 : 1 ≤ R.c.sources
  n6 : R.c.sources ≤ 6
  slack : 0 ≤ R.c.slack ∧ R.c.slack ≤ 1000
  policy : 0 ≤ R.c.policy ∧ R.c.policy ≤ 2
  room : 1 ≤ R.c.room ∧ R.c.room ≤ 32
  idle : 0 ≤ R.c.idle ∧ R.c.idle ≤ 1000

/-- one cell of a source -/
theorem MemR.srcCell {w : World} {b : Nat} {R : Ref} (h : MemR w b R) (i o : Nat) (hi : i < R.srcs.length) (ho : o < 5) : w.cell? ⟨R.sg, i * 5 + o, none⟩ = R.srcs[i].vals[o]? := by
  obtain ⟨g, hg, _, _, hc, _⟩ := h.src.form (by omega)
  simp only [Option.some.injEq, Addr.mk.injEq, and_true] at hg
  rw [hg, hc _ (by omega), flatMap_get _ 5 RSrc.len _ i o ho hi]
theorem MemR.srcFrozen {w : World} {b : Nat} {R : Ref} (h : MemR w b R) (o : Nat) (hi : 0 < R.srcs.length) : w.frozen? ⟨R.sg, o, none⟩ = false := by
  obtain ⟨g, hg, _, _, _, hf⟩ := h.src.form hi
  simp only [Option.some.injEq, Addr.mk.injEq, and_true] at hg
  rw [hg]; exact hf o
theorem fp_src {R : Ref} {b i : Nat} (hi : i < R.srcs.length) : (R.fp b)[5 + 2 * i]? = some (bk R.srcs[i].ma) ∧ (R.fp b)[6 + 2 * i]? = some (bk R.srcs[i].qa) := by
  have key : ∀ (l : List RSrc) (i : Nat) (hi : i < l.length), (l.flatMap (fun r => [bk r.ma, bk r.qa]))[2 * i]? = some (bk l[i].ma) ∧ (l.flatMap (fun r => [bk r.ma, bk r.qa]))[2 * i + 1]? = some (bk l[i].qa) := by
    intro l
    induction l with
    | nil => intro i hi; simp at hi
    | cons a l ih =>
      intro i hi
      cases i with
      | zero => simp
      | succ i =>
        have := ih i (by simpa using hi)
        simp only [List.flatMap_cons, List.getElem_cons_succ]
        rw [List.getElem?_append_right (by simp; omega), List.getElem?_append_right (by simp; omega)]
        simpa [show 2 * (i + 1) - 2 = 2 * i by omega, show 2 * (i + 1) + 1 - 2 = 2 * i + 1 by omega] using this
  have k := key R.srcs i hi
  unfold Ref.fp
  constructor
  · rw [List.getElem?_append_right (by simp), show 5 + 2 * i - [some b, bk R.pa, some R.sg, bk R.aa, bk R.da].length = 2 * i by simp]; exact k.1
  · rw [List.getElem?_append_right (by simp; omega), show 6 + 2 * i - [some b, bk R.pa, some R.sg, bk R.aa, bk R.da].length = 2 * i + 1 by simp; omega]; exact k.2
theorem fp_mem {R : Ref} {b k : Nat} (h : some k ∈ R.fp b) : k = b ∨ bk R.pa = some k ∨ k = R.sg ∨ bk R.aa = some k ∨ bk R.da = some k ∨ ∃ i, ∃ hi : i < R.srcs.length, bk R.srcs[i].ma = some k ∨ bk R.srcs[i].qa = some k := by
  unfold Ref.fp at h
  simp only [List.cons_append, List.nil_append, List.mem_cons, Option.some.injEq, List.mem_flatMap, List.not_mem_nil, or_false] at h
  rcases h with h | h | h | h | h | ⟨r, hr, h⟩
  · exact Or.inl h
  · exact Or.inr (Or.inl h.symm)
  · exact Or.inr (Or.inr (Or.inl h))
  · exact Or.inr (Or.inr (Or.inr (Or.inl h.symm)))
  · exact Or.inr (Or.inr (Or.inr (Or.inr (Or.inl h.symm))))
  · obtain ⟨i, hi, rfl⟩ := List.mem_iff_getElem.1 hr
    exact Or.inr (Or.inr (Or.inr (Or.inr (Or.inr ⟨i, hi, h.imp Eq.symm Eq.symm⟩))))
theorem MemR.fp_lt {w : World} {b : Nat} {R : Ref} (h : MemR w b R) : ∀ k, some k ∈ R.fp b → k < w.heap.size := by
  intro k hk
  rcases fp_mem hk with e | e | e | e | e | ⟨i, hi, e | e⟩
  · rw [e]; exact h.eng.lt
  · exact h.stp.lt e
  · subst e; exact h.src.lt (a := some ⟨R.sg, 0, none⟩) rfl
  · exact h.all.lt e
  · exact h.asd.lt e
  · exact (h.mrk i _ (List.getElem?_eq_getElem hi)).lt e
  · exact (h.sqs i _ (List.getElem?_eq_getElem hi)).lt e
/-- what leaves its blocks alone leaves it -/
theorem MemR.kept {S : Nat → Prop} {w w' : World} {b : Nat} {R : Ref} (h : MemR w b R) (hk : Kept S w w') (hn : ∀ k, some k ∈ R.fp b → ¬ S k) : MemR w' b R := by
  have m : ∀ i (hi : i < (R.fp b).length) k, (R.fp b)[i] = some k → ¬ S k := fun i hi k e => hn k (e ▸ List.getElem_mem hi)
  refine ⟨h.eng.kept hk (hn b (by simp [Ref.fp])), h.stp.kept hk (fun k e => hn k (by simp [Ref.fp, e])), h.src.kept hk (fun k e => hn k (by simp [bk] at e; simp [Ref.fp, e])), h.all.kept hk (fun k e => hn k (by simp [Ref.fp, e])), h.asd.kept hk (fun k e => hn k (by simp [Ref.fp, e])), ?_, ?_, h.dis⟩
  · intro i r hr
    refine (h.mrk i r hr).kept hk (fun k e => hn k ?_)
    obtain ⟨hi, rfl⟩ := List.getElem?_eq_some_iff.1 hr
    exact List.mem_of_getElem? ((fp_src (b := b) hi).1.trans (by rw [e]))
  · intro i r hr
    refine (h.sqs i r hr).kept hk (fun k e => hn k ?_)
    obtain ⟨hi, rfl⟩ := List.getElem?_eq_some_iff.1 hr
    exact List.mem_of_getElem? ((fp_src (b := b) hi).2.trans (by rw [e]))
theorem MemR.drew {w : World} {b : Nat} {R : Ref} (h : MemR w b R) : MemR w.drew b R := h.kept ((Kept.refl (fun _ => False) w).drew) (fun _ _ e => e)
theorem MemR.alloc {w : World} {b : Nat} {R : Ref} (h : MemR w b R) (o : Obj) : MemR (w.alloc o) b R := h.kept ((Kept.refl (fun _ => False) w).alloc o) (fun _ _ e => e)
theorem MemR.below {w w' : World} {b : Nat} {R : Ref} (h : MemR w b R) (hb : Below w.heap.size w w') : MemR w' b R := h.kept (below_kept hb (fun _ => False)) (fun _ _ e => e)
end Go.Proofs.YthiabdpgieppoaaGreat
