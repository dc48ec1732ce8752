import Derived.Test.YtghcololkgeoeabGreatPartA0
import Derived.Test.YtghcololkgeoeabGreatPartA5
import Derived.Deep.RegionLawGrows
namespace Go.Proofs.YtghcololkgeoeabGreat
open Go.RowKit
set_option linter.unusedVariables false
set_option linter.unusedSimpArgs false

def Go.Act.over (a : Act) (f : Nat → Option Value) : Act := { a with tmps := a.tmps.mapIdx fun i x => (f i).getD x }
theorem over_none (a : Act) : Go.Act.over a (fun _ => none) = a := by
  obtain ⟨t, d⟩ := a
  simp only [Go.Act.over]
  congr 1
  apply Array.ext
  · simp
  · intro i h1 h2; simp
theorem over_put (a : Act) (f : Nat → Option Value) (d : Nat) (v : Value) : (Go.Act.over a f).put (some d) v = Go.Act.over a (fun i => if i = d then some v else f i) := by
  obtain ⟨t, df⟩ := a
  simp only [Go.Act.over, Act.put]
  congr 1
  apply Array.ext
  · simp
  · intro i h1 h2
    by_cases h : d = i
    · subst h; simp
    · rw [Array.getElem_setIfInBounds_ne (by simpa using h2) h]
      simp only [Array.getElem_mapIdx]
      rw [if_neg (fun e => h e.symm)]
theorem put_over (a : Act) (d : Nat) (v : Value) : a.put (some d) v = Go.Act.over a (fun i => if i = d then some v else none) := by
  have := over_put a (fun _ => none) d v
  rw [over_none] at this
  exact this
def sixF (d1 e1 d2 e2 d3 e3 : Nat) (y1 z1 y2 z2 y3 z3 : Value) (i : Nat) : Option Value := if i = e3 then some z3 else if i = d3 then some y3 else if i = e2 then some z2 else if i = d2 then some y2 else if i = e1 then some z1 else if i = d1 then some y1 else none
def six (a : Act) (d1 e1 d2 e2 d3 e3 : Nat) (y1 z1 y2 z2 y3 z3 : Value) : Act := (((((a.put (some d1) y1).put (some e1) z1).put (some d2) y2).put (some e2) z2).put (some d3) y3).put (some e3) z3
theorem six_over (a : Act) (d1 e1 d2 e2 d3 e3 : Nat) (y1 z1 y2 z2 y3 z3 : Value) : six a d1 e1 d2 e2 d3 e3 y1 z1 y2 z2 y3 z3 = Go.Act.over a (sixF d1 e1 d2 e2 d3 e3 y1 z1 y2 z2 y3 z3) := by
  unfold six
  rw [put_over a, over_put, over_put, over_put, over_put, over_put]
  rfl
theorem six_put {a : Act} {d1 e1 d2 e2 d3 e3 : Nat} (hd : [d1, e1, d2, e2, d3, e3].Nodup) (y1 z1 y2 z2 y3 z3 v : Value) :
    (six a d1 e1 d2 e2 d3 e3 y1 z1 y2 z2 y3 z3).put (some d1) v = six a d1 e1 d2 e2 d3 e3 v z1 y2 z2 y3 z3 ∧
    (six a d1 e1 d2 e2 d3 e3 y1 z1 y2 z2 y3 z3).put (some e1) v = six a d1 e1 d2 e2 d3 e3 y1 v y2 z2 y3 z3 ∧
    (six a d1 e1 d2 e2 d3 e3 y1 z1 y2 z2 y3 z3).put (some d2) v = six a d1 e1 d2 e2 d3 e3 y1 z1 v z2 y3 z3 ∧
    (six a d1 e1 d2 e2 d3 e3 y1 z1 y2 z2 y3 z3).put (some e2) v = six a d1 e1 d2 e2 d3 e3 y1 z1 y2 v y3 z3 ∧
    (six a d1 e1 d2 e2 d3 e3 y1 z1 y2 z2 y3 z3).put (some d3) v = six a d1 e1 d2 e2 d3 e3 y1 z1 y2 z2 v z3 ∧
    (six a d1 e1 d2 e2 d3 e3 y1 z1 y2 z2 y3 z3).put (some e3) v = six a d1 e1 d2 e2 d3 e3 y1 z1 y2 z2 y3 v := by
  simp only [List.nodup_cons, List.mem_cons, List.not_mem_nil, or_false, not_or] at hd
  obtain ⟨⟨_, _, _, _, _⟩, ⟨_, _, _, _⟩, ⟨_, _, _⟩, ⟨_, _⟩, _⟩ := hd
  simp only [six_over, over_put]
  refine ⟨?_, ?_, ?_, ?_, ?_, ?_⟩ <;>
  · congr 1
    funext i
    simp only [sixF]
    repeat' split
    all_goals first | rfl | (exfalso; omega)
section
variable {P : Program} {ops : Array Oper} {Q : Exit → Act → World → Prop} {md : Region.Mode} {S : World → Prop} {t : Nat}
def mkL (s : Array Bool) (l : List Nat) : Array Bool := l.foldl (fun s i => s.setIfInBounds i true) s
def sixM (i1 j1 i2 j2 i3 j3 : Nat) : List (List Nat) := [[], [i1], [i1, j1], [i2], [i3], [i1, i2], [i1, j1, i2], [i1, j1, i2, j2], [i1, i3], [i1, j1, i3], [i2, i3], [i1, i2, i3], [i1, j1, i2, i3], [i1, j1, i2, j2, i3], [i1, j1, i2, j2, i3, j3]]
def sixOk (md : Region.Mode) (ops : Array Oper) (s : Array Bool) (i1 j1 i2 j2 i3 j3 : Nat) : Bool :=
  (sixM i1 j1 i2 j2 i3 j3).all fun m => m.length == 6 || (!(Region.ready md ops (mkL s m)).isEmpty && (Region.ready md ops (mkL s m)).all fun i =>
    [i1, j1, i2, j2, i3, j3].contains i && (i != j1 || m.contains i1) && (i != j2 || m.contains i2) && (i != j3 || m.contains i3) &&
    (sixM i1 j1 i2 j2 i3 j3).any fun n => mkL s n == (mkL s m).setIfInBounds i true && n.length == m.length + 1 && n.all fun x => x == i || m.contains x)
theorem sixOk_spec {s : Array Bool} {i1 j1 i2 j2 i3 j3 : Nat} (h : sixOk md ops s i1 j1 i2 j2 i3 j3 = true) {m : List Nat} (hm : m ∈ sixM i1 j1 i2 j2 i3 j3) (hl : m.length ≠ 6) :
    Region.ready md ops (mkL s m) ≠ [] ∧ ∀ i ∈ Region.ready md ops (mkL s m), (i = i1 ∨ i = j1 ∨ i = i2 ∨ i = j2 ∨ i = i3 ∨ i = j3) ∧ (i = j1 → i1 ∈ m) ∧ (i = j2 → i2 ∈ m) ∧ (i = j3 → i3 ∈ m) ∧
      ∃ n ∈ sixM i1 j1 i2 j2 i3 j3, mkL s n = (mkL s m).setIfInBounds i true ∧ n.length = m.length + 1 ∧ ∀ x ∈ n, x = i ∨ x ∈ m := by
  unfold sixOk at h
  have h1 := (List.all_eq_true.1 h) m hm
  rw [Bool.or_eq_true] at h1
  rcases h1 with h1 | h1
  · exact absurd (by simpa using h1) hl
  · rw [Bool.and_eq_true] at h1
    refine ⟨fun e => by rw [e] at h1; simp at h1, fun i hi => ?_⟩
    have h2 := (List.all_eq_true.1 h1.2) i hi
    simp only [Bool.and_eq_true, Bool.or_eq_true, List.contains_iff_mem, bne_iff_ne, List.any_eq_true, beq_iff_eq, List.all_eq_true, List.mem_cons, List.not_mem_nil, or_false] at h2
    obtain ⟨⟨⟨⟨h3, h4⟩, h5⟩, h6⟩, n, hn, ⟨h7, h8⟩, h9⟩ := h2
    exact ⟨h3, fun e => h4.resolve_left (fun f => f e), fun e => h5.resolve_left (fun f => f e), fun e => h6.resolve_left (fun f => f e), n, hn, h7, h8, h9⟩
theorem six_full {i1 j1 i2 j2 i3 j3 : Nat} {m : List Nat} (hm : m ∈ sixM i1 j1 i2 j2 i3 j3) (hl : m.length = 6) : m = [i1, j1, i2, j2, i3, j3] := by
  simp only [sixM, List.mem_cons, List.not_mem_nil, or_false] at hm
  rcases hm with rfl | rfl | rfl | rfl | rfl | rfl | rfl | rfl | rfl | rfl | rfl | rfl | rfl | rfl | rfl <;> first | rfl | (simp at hl)
def SixStep (P : Program) (ops : Array Oper) (Q : Exit → Act → World → Prop) (o : Oper) (J : World → Prop) (T : World → World → Prop) (B : Value → World → Prop) (a : Act) (w : World) : Prop :=
  ∀ K : Act → World → Prop, Shut (∀ v w', J w' → T w w' → B v w' → K (a.put o.dst v) w') → if Region.wanted o (yielded ops a.tmps) = true then Oper.wp P o a w K Q else K (a.put o.dst undef) w
theorem upTo_six {fuel : Nat} {listed : Array Bool} {a : Act} {w : World} (i1 j1 i2 j2 i3 j3 : Nat) {o1 p1 o2 p2 o3 p3 : Oper} {d1 e1 d2 e2 d3 e3 : Nat} (u1 u2 u3 u4 u5 u6 : Value)
    (ho1 : ops[i1]? = some o1) (hp1 : ops[j1]? = some p1) (ho2 : ops[i2]? = some o2) (hp2 : ops[j2]? = some p2) (ho3 : ops[i3]? = some o3) (hp3 : ops[j3]? = some p3)
    (g1 : o1.dst = some d1) (k1 : p1.dst = some e1) (g2 : o2.dst = some d2) (k2 : p2.dst = some e2) (g3 : o3.dst = some d3) (k3 : p3.dst = some e3)
    (hd : ([d1, e1, d2, e2, d3, e3] : List Nat).Nodup) (hi : ([i1, j1, i2, j2, i3, j3] : List Nat).Nodup) (hc : sixOk md ops listed i1 j1 i2 j2 i3 j3 = true) (ht : t ∉ [i1, j1, i2, j2, i3, j3])
    (ha : a = six a d1 e1 d2 e2 d3 e3 u1 u2 u3 u4 u5 u6)
    (J : World → Prop) (T : World → World → Prop) (B1 R1 B2 R2 B3 R3 : Value → World → Prop)
    (hT : ∀ w w', T w w' → (∀ v, B1 v w → B1 v w') ∧ (∀ v, R1 v w → R1 v w') ∧ (∀ v, B2 v w → B2 v w') ∧ (∀ v, R2 v w → R2 v w') ∧ (∀ v, B3 v w → B3 v w') ∧ (∀ v, R3 v w → R3 v w'))
    (hS : ∀ w, J w → S w) (hw : J w)
    (sb : ∀ y1 z1 y2 z2 y3 z3 w, J w → SixStep P ops Q o1 J T B1 (six a d1 e1 d2 e2 d3 e3 y1 z1 y2 z2 y3 z3) w ∧ SixStep P ops Q o2 J T B2 (six a d1 e1 d2 e2 d3 e3 y1 z1 y2 z2 y3 z3) w ∧ SixStep P ops Q o3 J T B3 (six a d1 e1 d2 e2 d3 e3 y1 z1 y2 z2 y3 z3) w ∧
      (B1 y1 w → SixStep P ops Q p1 J T R1 (six a d1 e1 d2 e2 d3 e3 y1 z1 y2 z2 y3 z3) w) ∧ (B2 y2 w → SixStep P ops Q p2 J T R2 (six a d1 e1 d2 e2 d3 e3 y1 z1 y2 z2 y3 z3) w) ∧ (B3 y3 w → SixStep P ops Q p3 J T R3 (six a d1 e1 d2 e2 d3 e3 y1 z1 y2 z2 y3 z3) w))
    (fin : ∀ y1 z1 y2 z2 y3 z3 w, J w → B1 y1 w → R1 z1 w → B2 y2 w → R2 z2 w → B3 y3 w → R3 z3 w → UpTo P md ops Q S t fuel (mkL listed [i1, j1, i2, j2, i3, j3]) (six a d1 e1 d2 e2 d3 e3 y1 z1 y2 z2 y3 z3) w) :
    UpTo P md ops Q S t (fuel + 6) listed a w := by
  have key : ∀ (k : Nat) (m : List Nat) (y1 z1 y2 z2 y3 z3 : Value) (w : World), m ∈ sixM i1 j1 i2 j2 i3 j3 → m.length + k = 6 → J w → (i1 ∈ m → B1 y1 w) → (j1 ∈ m → R1 z1 w) → (i2 ∈ m → B2 y2 w) → (j2 ∈ m → R2 z2 w) → (i3 ∈ m → B3 y3 w) → (j3 ∈ m → R3 z3 w) →
      UpTo P md ops Q S t (fuel + k) (mkL listed m) (six a d1 e1 d2 e2 d3 e3 y1 z1 y2 z2 y3 z3) w := by
    intro k
    induction k with
    | zero =>
      intro m y1 z1 y2 z2 y3 z3 w hm hl hJ b1 r1 b2 r2 b3 r3
      have := six_full hm (by omega)
      subst this
      exact fin _ _ _ _ _ _ _ hJ (b1 (by simp)) (r1 (by simp)) (b2 (by simp)) (r2 (by simp)) (b3 (by simp)) (r3 (by simp))
    | succ k ih =>
      intro m y1 z1 y2 z2 y3 z3 w hm hl hJ b1 r1 b2 r2 b3 r3
      obtain ⟨hne, hall⟩ := sixOk_spec hc hm (by omega)
      rw [← Nat.add_assoc]
      refine ⟨fun e => absurd e hne, fun i hi' => ?_⟩
      obtain ⟨hcs, q1, q2, q3, n, hn, hL, hlen, hsub⟩ := hall i hi'
      obtain ⟨s1, s2, s3, s4, s5, s6⟩ := sb y1 z1 y2 z2 y3 z3 w hJ
      have hput := six_put (a := a) hd y1 z1 y2 z2 y3 z3
      simp only [List.nodup_cons, List.mem_cons, List.not_mem_nil, or_false, not_or] at hi
      have hi6 := hi
      obtain ⟨⟨a1, a2, a3, a4, a5⟩, ⟨a6, a7, a8, a9⟩, ⟨a10, a11, a12⟩, ⟨a13, a14⟩, a15, _⟩ := hi6
      have hit : i ≠ t := by
        intro e
        apply ht
        simp only [List.mem_cons, List.not_mem_nil, or_false]
        rw [← e]; exact hcs
      rw [← hL]
      rcases hcs with rfl | rfl | rfl | rfl | rfl | rfl
      · refine wpOp_step ho1 (fun K hK => s1 K (fun v w' hJ' hT' hB => hK _ _ ⟨fun _ => hS _ hJ', ?_⟩))
        rw [g1, (hput v).1]
        obtain ⟨t1, t2, t3, t4, t5, t6⟩ := hT w w' hT'
        exact ih n v z1 y2 z2 y3 z3 w' hn (by omega) hJ' (fun _ => hB) (fun h => t2 _ (r1 ((hsub _ h).resolve_left (by omega)))) (fun h => t3 _ (b2 ((hsub _ h).resolve_left (by omega)))) (fun h => t4 _ (r2 ((hsub _ h).resolve_left (by omega)))) (fun h => t5 _ (b3 ((hsub _ h).resolve_left (by omega)))) (fun h => t6 _ (r3 ((hsub _ h).resolve_left (by omega))))
      · refine wpOp_step hp1 (fun K hK => s4 (b1 (q1 rfl)) K (fun v w' hJ' hT' hB => hK _ _ ⟨fun _ => hS _ hJ', ?_⟩))
        rw [k1, (hput v).2.1]
        obtain ⟨t1, t2, t3, t4, t5, t6⟩ := hT w w' hT'
        exact ih n y1 v y2 z2 y3 z3 w' hn (by omega) hJ' (fun h => t1 _ (b1 ((hsub _ h).resolve_left (by omega)))) (fun _ => hB) (fun h => t3 _ (b2 ((hsub _ h).resolve_left (by omega)))) (fun h => t4 _ (r2 ((hsub _ h).resolve_left (by omega)))) (fun h => t5 _ (b3 ((hsub _ h).resolve_left (by omega)))) (fun h => t6 _ (r3 ((hsub _ h).resolve_left (by omega))))
      · refine wpOp_step ho2 (fun K hK => s2 K (fun v w' hJ' hT' hB => hK _ _ ⟨fun _ => hS _ hJ', ?_⟩))
        rw [g2, (hput v).2.2.1]
        obtain ⟨t1, t2, t3, t4, t5, t6⟩ := hT w w' hT'
        exact ih n y1 z1 v z2 y3 z3 w' hn (by omega) hJ' (fun h => t1 _ (b1 ((hsub _ h).resolve_left (by omega)))) (fun h => t2 _ (r1 ((hsub _ h).resolve_left (by omega)))) (fun _ => hB) (fun h => t4 _ (r2 ((hsub _ h).resolve_left (by omega)))) (fun h => t5 _ (b3 ((hsub _ h).resolve_left (by omega)))) (fun h => t6 _ (r3 ((hsub _ h).resolve_left (by omega))))
      · refine wpOp_step hp2 (fun K hK => s5 (b2 (q2 rfl)) K (fun v w' hJ' hT' hB => hK _ _ ⟨fun _ => hS _ hJ', ?_⟩))
        rw [k2, (hput v).2.2.2.1]
        obtain ⟨t1, t2, t3, t4, t5, t6⟩ := hT w w' hT'
        exact ih n y1 z1 y2 v y3 z3 w' hn (by omega) hJ' (fun h => t1 _ (b1 ((hsub _ h).resolve_left (by omega)))) (fun h => t2 _ (r1 ((hsub _ h).resolve_left (by omega)))) (fun h => t3 _ (b2 ((hsub _ h).resolve_left (by omega)))) (fun _ => hB) (fun h => t5 _ (b3 ((hsub _ h).resolve_left (by omega)))) (fun h => t6 _ (r3 ((hsub _ h).resolve_left (by omega))))
      · refine wpOp_step ho3 (fun K hK => s3 K (fun v w' hJ' hT' hB => hK _ _ ⟨fun _ => hS _ hJ', ?_⟩))
        rw [g3, (hput v).2.2.2.2.1]
        obtain ⟨t1, t2, t3, t4, t5, t6⟩ := hT w w' hT'
        exact ih n y1 z1 y2 z2 v z3 w' hn (by omega) hJ' (fun h => t1 _ (b1 ((hsub _ h).resolve_left (by omega)))) (fun h => t2 _ (r1 ((hsub _ h).resolve_left (by omega)))) (fun h => t3 _ (b2 ((hsub _ h).resolve_left (by omega)))) (fun h => t4 _ (r2 ((hsub _ h).resolve_left (by omega)))) (fun _ => hB) (fun h => t6 _ (r3 ((hsub _ h).resolve_left (by omega))))
      · refine wpOp_step hp3 (fun K hK => s6 (b3 (q3 rfl)) K (fun v w' hJ' hT' hB => hK _ _ ⟨fun _ => hS _ hJ', ?_⟩))
        rw [k3, (hput v).2.2.2.2.2]
        obtain ⟨t1, t2, t3, t4, t5, t6⟩ := hT w w' hT'
        exact ih n y1 z1 y2 z2 y3 v w' hn (by omega) hJ' (fun h => t1 _ (b1 ((hsub _ h).resolve_left (by omega)))) (fun h => t2 _ (r1 ((hsub _ h).resolve_left (by omega)))) (fun h => t3 _ (b2 ((hsub _ h).resolve_left (by omega)))) (fun h => t4 _ (r2 ((hsub _ h).resolve_left (by omega)))) (fun h => t5 _ (b3 ((hsub _ h).resolve_left (by omega)))) (fun _ => hB)
  rw [ha]
  have := key 6 [] u1 u2 u3 u4 u5 u6 w (by simp [sixM]) rfl hw (fun h => by cases h) (fun h => by cases h) (fun h => by cases h) (fun h => by cases h) (fun h => by cases h) (fun h => by cases h)
  exact this
end
end Go.Proofs.YtghcololkgeoeabGreat
namespace Go.Proofs.YtghcololkgeoeabGreat
open Go.RowKit
set_option linter.unusedVariables false
set_option linter.unusedSimpArgs false

structure Sl1 where
  a : Option Addr
  n : Nat
  c : Nat
def Sl1.val (s : Sl1) : Value := .slice s.a s.n s.c
def AllP (w : World) (t : TypeId) (d : Nat) (φ : Nat → Value → Prop) (s : Sl1) : Prop := ∃ vs, Row w t d s.a s.n s.c vs ∧ ∀ j v, vs[j]? = some v → φ (j % d) v
theorem Row.addr {w : World} {t : TypeId} {sz : Nat} {a : Option Addr} {n c : Nat} {xs : List Value} (h : Row w t sz a n c xs) : (a = none ∧ n = 0 ∧ c = 0) ∨ ∃ g cur, a = some ⟨g, 0, none⟩ ∧ Blk w g t cur ∧ cur.length = c * sz ∧ n ≤ c ∧ c ≤ maxLen ∧ xs = cur.take (n * sz) ∧ xs.length = n * sz := by
  rcases h.2 with ⟨e, e2⟩ | ⟨g, cap, cur, hv, hb, hh, h3, h4, h5, h6⟩
  · simp only [Value.slice.injEq] at e; exact Or.inl ⟨e.1, e.2.1, e.2.2⟩
  · simp only [Value.slice.injEq, true_and] at hv
    obtain ⟨rfl, rfl⟩ := hv
    exact Or.inr ⟨g, cur.toList, rfl, by unfold Blk; simpa using hh, by simpa using h5, h3, h4, h6.symm, h.1⟩
theorem Row.mk' {w : World} {t : TypeId} {sz : Nat} {g n c : Nat} {xs cur : List Value} (hb : Blk w g t cur) (hl : cur.length = c * sz) (hn : n ≤ c) (hc : c ≤ maxLen) (hx : xs = cur.take (n * sz)) : Row w t sz (some ⟨g, 0, none⟩) n c xs := by
  have hle : n * sz ≤ c * sz := Nat.mul_le_mul_right _ hn
  refine ⟨by rw [hx, List.length_take]; omega, Or.inr ⟨g, c, cur.toArray, rfl, Nat.zero_le _, ?_, hn, hc, by simpa using hl, by simpa using hx.symm⟩⟩
  unfold Blk at hb; exact hb
theorem AllP.mark {w : World} {t : TypeId} {d : Nat} {φ : Nat → Value → Prop} {s : Sl1} (h : AllP w t d φ s) (g j : Nat) (v : Value) (hv : φ (j % d) v) : AllP (w.setCell ⟨g, j, none⟩ v) t d φ s := by
  obtain ⟨vs, hr, hφ⟩ := h
  by_cases hg : bk s.a = some g
  · rcases hr.addr with ⟨e, _⟩ | ⟨g', cur, e, _⟩
    · rw [e] at hg; cases hg
    · rw [e] at hg
      simp only [bk, Option.map_some, Option.some.injEq] at hg
      subst hg
      refine ⟨vs.set j v, ?_, ?_⟩
      · rw [e] at hr ⊢; exact hr.set j v
      · intro i u hu
        rw [List.getElem?_set] at hu
        split at hu
        · rename_i e'; subst e'
          split at hu
          · simp only [Option.some.injEq] at hu; subst hu; exact hv
          · cases hu
        · exact hφ i u hu
  · exact ⟨vs, hr.other hg v, hφ⟩
theorem AllP.marks {t : TypeId} {d : Nat} {φ : Nat → Value → Prop} {s : Sl1} (g : Nat) : ∀ (vs : List Value) (o : Nat) (w : World), AllP w t d φ s → (∀ i v, vs[i]? = some v → φ ((o + i) % d) v) → AllP (w.setCells g o vs) t d φ s := by
  intro vs
  induction vs with
  | nil => intro o w h _; exact h
  | cons v vs ih =>
    intro o w h hv
    rw [World.setCells]
    refine ih (o + 1) _ (h.mark g o v (by simpa using hv 0 v rfl)) (fun i u hu => ?_)
    have := hv (i + 1) u (by simpa using hu)
    rw [show o + 1 + i = o + (i + 1) by omega]; exact this
theorem kept_setCells1 {S : Nat → Prop} {g : Nat} (hS : S g) : ∀ (vs : List Value) (o : Nat) (w : World), Kept S w (w.setCells g o vs) := by
  intro vs
  induction vs with
  | nil => intro o w; exact Kept.refl _ _
  | cons v vs ih => intro o w; rw [World.setCells]; exact ((Kept.refl S w).setCell (fun _ => hS) v).trans (ih _ _)
def setL1 (l : List Value) (o : Nat) : List Value → List Value
  | [] => l
  | v :: r => setL1 (l.set o v) (o + 1) r
theorem setL1_eq : ∀ (vs l : List Value) (o : Nat), o + vs.length ≤ l.length → setL1 l o vs = l.take o ++ vs ++ l.drop (o + vs.length) := by
  intro vs
  induction vs with
  | nil => intro l o h; simp [setL1]
  | cons v vs ih =>
    intro l o h
    simp only [List.length_cons] at h
    rw [setL1, ih (l.set o v) (o + 1) (by simp; omega)]
    have h1 : (l.set o v).take (o + 1) = l.take o ++ [v] := by
      rw [List.take_succ_eq_append_getElem (by simp; omega)]
      rw [List.take_set, List.set_eq_of_length_le (by simp; omega)]; simp
    rw [h1, List.drop_set_of_lt (by omega)]
    simp [show o + 1 + vs.length = o + (vs.length + 1) by omega]
theorem blk_setCells1 {b : Nat} {t : TypeId} : ∀ (vs : List Value) (o : Nat) (w : World) (l : List Value), Blk w b t l → Blk (w.setCells b o vs) b t (setL1 l o vs) := by
  intro vs
  induction vs with
  | nil => intro o w l h; exact h
  | cons v vs ih => intro o w l h; rw [World.setCells, setL1]; exact ih _ _ _ (h.set o v)
theorem mod_add {n d i : Nat} : (n * d + i) % d = i % d := by rw [Nat.add_comm, Nat.add_mul_mod_self_right]
theorem app_kind {n d k : Nat} {φ : Nat → Value → Prop} {vs xs : List Value} (hl : vs.length = n * d) (h : ∀ j v, vs[j]? = some v → φ (j % d) v) (hx : ∀ j v, xs[j]? = some v → φ (j % d) v) : ∀ j v, (vs ++ xs)[j]? = some v → φ (j % d) v := by
  intro j v hj
  rw [List.getElem?_append] at hj
  split at hj
  · exact h j v hj
  · rename_i hge
    have := hx _ _ hj
    rw [hl] at this
    rw [show j = n * d + (j - n * d) by omega, mod_add]; exact this
theorem AllP.room {w : World} {t : TypeId} {d : Nat} {φ : Nat → Value → Prop} {g n c k : Nat} {xs : List Value} (h : AllP w t d φ ⟨some ⟨g, 0, none⟩, n, c⟩) (hc : n + k ≤ c) (hx : xs.length = k * d) (hφ : ∀ j v, xs[j]? = some v → φ (j % d) v) : AllP (w.setCells g (n * d) xs) t d φ ⟨some ⟨g, 0, none⟩, n + k, c⟩ := by
  obtain ⟨vs, hr, hv⟩ := h
  rcases hr.addr with ⟨e, _⟩ | ⟨g', cur, e, hb, hl, h1, h2, h3, h4⟩
  · cases e
  · simp only [Option.some.injEq, Addr.mk.injEq, and_true] at e
    subst e
    simp only at hl h1 h2 h3 h4
    have h7 := blk_setCells1 xs (n * d) w _ hb
    have hle : (n + k) * d ≤ c * d := Nat.mul_le_mul_right _ hc
    have hnk : (n + k) * d = n * d + k * d := Nat.add_mul _ _ _
    rw [setL1_eq _ _ _ (by omega)] at h7
    refine ⟨vs ++ xs, Row.mk' h7 (by simp; omega) hc h2 ?_, app_kind (n := n) (k := k) h4 hv hφ⟩
    rw [List.take_append_of_le_length (by simp; omega), List.take_of_length_le (by simp; omega), ← h3]
theorem AllP.kept {S : Nat → Prop} {w w' : World} {t : TypeId} {d : Nat} {φ : Nat → Value → Prop} {s : Sl1} (h : AllP w t d φ s) (hk : Kept S w w') (hn : ∀ k, bk s.a = some k → ¬ S k) : AllP w' t d φ s := by
  obtain ⟨vs, hr, hv⟩ := h; exact ⟨vs, hr.kept hk hn, hv⟩
theorem AllP.lt {w : World} {t : TypeId} {d : Nat} {φ : Nat → Value → Prop} {s : Sl1} (h : AllP w t d φ s) {k : Nat} (e : bk s.a = some k) : k < w.heap.size := by
  obtain ⟨vs, hr, hv⟩ := h; exact hr.lt e
theorem AllP.heap {w w' : World} {t : TypeId} {d : Nat} {φ : Nat → Value → Prop} {s : Sl1} (h : AllP w t d φ s) (hk : ∀ k, k < w.heap.size → w'.heap[k]? = w.heap[k]?) : AllP w' t d φ s := by
  obtain ⟨vs, hr, hv⟩ := h; exact ⟨vs, ownsRow_of_heap hr hk, hv⟩
theorem allP_new (w : World) (t : TypeId) (d : Nat) (φ : Nat → Value → Prop) (k : Nat) (xs : List Value) (hx : xs.length = k * d) (hk : k ≤ 1000) (hφ : ∀ j v, xs[j]? = some v → φ (j % d) v) : AllP (w.alloc (.cells xs.toArray t)) t d φ ⟨some ⟨w.heap.size, 0, none⟩, k, k⟩ :=
  ⟨xs, Row.mk' (blk_alloc w xs t) hx (Nat.le_refl _) (by show k ≤ maxLen; unfold maxLen; omega) (by show xs = xs.take (k * d); rw [List.take_of_length_le (by omega)]), hφ⟩
theorem AllP.cells {w : World} {t : TypeId} {d : Nat} {φ : Nat → Value → Prop} {g n c : Nat} (h : AllP w t d φ ⟨some ⟨g, 0, none⟩, n, c⟩) : ∃ xs : List Value, xs.length = n * d ∧ (∀ j v, xs[j]? = some v → φ (j % d) v) ∧ ∀ j u, xs[j]? = some u → w.cell? ((⟨g, 0, none⟩ : Addr).add j) = some u := by
  obtain ⟨vs, hr, hv⟩ := h
  rcases hr.addr with ⟨e, _⟩ | ⟨g', cur, e, hb, hl, h1, h2, h3, h4⟩
  · cases e
  · simp only [Option.some.injEq, Addr.mk.injEq, and_true] at e
    subst e
    refine ⟨vs, h4, hv, fun j u hu => ?_⟩
    have hz : (⟨g, 0, none⟩ : Addr).add j = ⟨g, j, none⟩ := by simp [Addr.add]; intro h; exact h.symm
    rw [hz, hb.cell]
    simp only at h3
    rw [h3, List.getElem?_take] at hu
    split at hu
    · exact hu
    · cases hu
theorem step_append_kind {P : Program} {ops : Array Oper} {o : Oper} {a : Act} {w : World} {K : Act → World → Prop} {Q : Exit → Act → World → Prop} {E : Prop}
    (hg : o.guard = none) (s x : Operand) (t : TypeId) (hop : o.op = Op.call { callee := Callee.builtin Builtin.append, args := #[s, x], argTypes := #[t, t] })
    (e : TypeId) (d bytes : Nat) (i : TypeInfo) (z : Value) (h1 : P.underlying t = some (.slice e)) (h2 : P.info? e = some i) (h3 : i.zero = some z) (h4 : i.size = d) (h5 : i.bytes = bytes) (h6 : z.cells.size = d) (hd : 0 < d) (hby : bytes ≤ 100)
    (φ : Nat → Value → Prop) (hone : ∀ j v, φ j v → v.oneCell' = true) (l : Sl1) (hs : a.eval s = l.val) (hl : AllP w e d φ l)
    (g k c : Nat) (hx : a.eval x = .slice (some ⟨g, 0, none⟩) k c) (hb2 : AllP w e d φ ⟨some ⟨g, 0, none⟩, k, c⟩) (hk : 0 < k) (hb : l.n + k ≤ 100000)
    (hK : ∀ (r : Sl1) w', r.n = l.n + k → AllP w' e d φ r → (∀ r', AllP w e d φ r' → AllP w' e d φ r') → Kept (fun b => bk l.a = some b) w w' → (bk r.a = bk l.a ∨ ∃ b, bk r.a = some b ∧ w.heap.size ≤ b ∧ b < w'.heap.size) → K (a.put o.dst r.val) w') :
    if Region.wanted o (yielded ops a.tmps) = true then Oper.wp P o a w K Q else E := by
  obtain ⟨xs, hxl, hxφ, hc⟩ := hb2.cells
  have hone' : ∀ u ∈ xs, u.oneCell' = true := by
    intro u hu
    obtain ⟨j, hj⟩ := List.getElem?_of_mem hu
    exact hone _ _ (hxφ j u hj)
  obtain ⟨la, n, cap⟩ := l
  simp only [Sl1.val] at hs
  simp only at hb hK
  by_cases hroom : n + k ≤ cap ∧ la ≠ none
  · obtain ⟨hroom, hla⟩ := hroom
    obtain ⟨vs, hr, hv⟩ := id hl
    rcases hr.addr with ⟨e', _⟩ | ⟨g', cur, e', hbk, hcl, _, _, h8, h9⟩
    · exact absurd e' hla
    · simp only at e' hcl h8 h9
      subst e'
      have hle : (n + k) * d ≤ cap * d := Nat.mul_le_mul_right _ hroom
      rw [Nat.add_mul] at hle
      refine step_append_room hg s x t hop e i d h1 h2 h4 g' 0 n cap hs ⟨g, 0, none⟩ k c xs hx hxl hc hone' hroom ?_ ?_
      · intro j hj
        refine ⟨?_, hbk.frozen _⟩
        rw [hbk.cell]
        have hlt : 0 + n * d + j < cur.length := by omega
        rw [List.getElem?_eq_getElem hlt]; rfl
      · rw [Nat.zero_add]
        exact hK ⟨some ⟨g', 0, none⟩, n + k, cap⟩ _ rfl (AllP.room hl hroom hxl hxφ) (fun r' hr' => hr'.marks g' _ _ _ (fun j v hj => by rw [mod_add]; exact hxφ j v hj)) (kept_setCells1 (S := fun b => bk (some (⟨g', 0, none⟩ : Addr)) = some b) rfl _ _ _) (Or.inl rfl)
  · have hcase : (la = none ∧ n = 0 ∧ cap = 0) ∨ la ≠ none := by
      obtain ⟨vs, hr, hv⟩ := hl
      rcases hr.addr with h | ⟨g', cur, e', _⟩
      · exact Or.inl h
      · right; simp only at e'; rw [e']; simp
    have hfull : cap < n + k := by
      rcases hcase with ⟨_, _, h⟩ | h
      · omega
      · rcases Nat.lt_or_ge cap (n + k) with h' | h'
        · exact h'
        · exact absurd ⟨h', h⟩ hroom
    obtain ⟨vs, hr, hv⟩ := id hl
    have hvl : vs.length = n * d := hr.1
    refine step_append_grows hg s x t hop e i z d bytes h1 h2 h3 h4 h5 h6 hd la n cap vs hs ?_ hvl ?_ ⟨g, 0, none⟩ k c xs hx hxl hc hone' hfull (by unfold maxLen; omega) ?_ ?_
    · intro e'
      rcases hcase with ⟨_, h, h'⟩ | h
      · exact ⟨h, h'⟩
      · exact absurd e' h
    · intro b hb' j u hu
      subst hb'
      rcases hr.addr with ⟨e', _⟩ | ⟨g', cur, e', hbk, hcl, _, _, h8, h9⟩
      · cases e'
      · simp only [Option.some.injEq] at e'
        subst e'
        have hz : (⟨g', 0, none⟩ : Addr).add j = ⟨g', j, none⟩ := by simp [Addr.add]; intro h; exact h.symm
        rw [hz, hbk.cell]
        simp only at h8
        rw [h8, List.getElem?_take] at hu
        split at hu
        · exact hu
        · cases hu
    · have := Nat.mul_le_mul hb hby; omega
    · intro v' w' hown hgr
      have h0 : 0 < n + k := by omega
      obtain ⟨g', cap', rfl, hge, hlt⟩ := hown.form h0
      have hw0 : w'.ownsRow 0 e d (.slice (some ⟨g', 0, none⟩) (n + k) cap') (n + k) (vs ++ xs) := toRow hown
      exact hK ⟨some ⟨g', 0, none⟩, n + k, cap'⟩ w' rfl ⟨vs ++ xs, hw0, app_kind (n := n) (k := k) hvl hv hxφ⟩ (fun r' hr' => hr'.kept ((Kept.refl (fun _ => False) w).grown hgr (fun k _ e => by cases e)) (fun _ _ e => e)) ((Kept.refl _ w).grown hgr (fun b _ e => by cases e)) (Or.inr ⟨g', rfl, hge, hlt⟩)

structure SixKd where
  t1 : TypeId
  d : Nat
  φ : Nat → Value → Prop
def SixKd.J (k : SixKd) (w3 : World) (sl : Sl1) (w : World) : Prop := Kept (fun b => bk sl.a = some b) w3 w ∧ AllP w k.t1 k.d k.φ sl
def SixKd.T (k : SixKd) (w w' : World) : Prop := ∀ r, AllP w k.t1 k.d k.φ r → AllP w' k.t1 k.d k.φ r
def SixKd.B (k : SixKd) (n : Nat) (v : Value) (w : World) : Prop := ∃ g, v = .slice (some ⟨g, 0, none⟩) n n ∧ AllP w k.t1 k.d k.φ ⟨some ⟨g, 0, none⟩, n, n⟩
def SixKd.R (k : SixKd) (w3 : World) (sl : Sl1) (n : Nat) (v : Value) (w : World) : Prop := ∃ r : Sl1, v = r.val ∧ r.n = sl.n + n ∧ AllP w k.t1 k.d k.φ r ∧ ∀ b, bk r.a = some b → bk sl.a = some b ∨ w3.heap.size ≤ b
theorem SixKd.tB {k : SixKd} {w w' : World} (h : k.T w w') {n : Nat} {v : Value} (hb : k.B n v w) : k.B n v w' := by obtain ⟨g, e, ha⟩ := hb; exact ⟨g, e, h _ ha⟩
theorem SixKd.tR {k : SixKd} {w3 w w' : World} {sl : Sl1} (h : k.T w w') {n : Nat} {v : Value} (hb : k.R w3 sl n v w) : k.R w3 sl n v w' := by obtain ⟨r, e, h1, ha, h2⟩ := hb; exact ⟨r, e, h1, h _ ha, h2⟩
theorem SixKd.trans {k : SixKd} {w3 : World} {sl : Sl1} : ∀ w w', k.T w w' → (∀ v, k.B 1 v w → k.B 1 v w') ∧ (∀ v, k.R w3 sl 1 v w → k.R w3 sl 1 v w') ∧ (∀ v, k.B 2 v w → k.B 2 v w') ∧ (∀ v, k.R w3 sl 2 v w → k.R w3 sl 2 v w') ∧ (∀ v, k.B 6 v w → k.B 6 v w') ∧ (∀ v, k.R w3 sl 6 v w → k.R w3 sl 6 v w') :=
  fun w w' h => ⟨fun v => k.tB h, fun v => k.tR h, fun v => k.tB h, fun v => k.tR h, fun v => k.tB h, fun v => k.tR h⟩
theorem SixKd.jdrew {k : SixKd} {w3 w : World} {sl : Sl1} (h : k.J w3 sl w) : k.J w3 sl w.drew := ⟨h.1.drew, h.2.heap (fun _ _ => rfl)⟩
theorem SixKd.built {k : SixKd} {w3 w : World} {sl : Sl1} (h : k.J w3 sl w) (n : Nat) (xs : List Value) (hx : xs.length = n * k.d) (hn : n ≤ 1000) (hφ : ∀ j v, xs[j]? = some v → k.φ (j % k.d) v) :
    k.J w3 sl (w.alloc (.cells xs.toArray k.t1)) ∧ k.T w (w.alloc (.cells xs.toArray k.t1)) ∧ k.B n (.slice (some ⟨w.heap.size, 0, none⟩) n n) (w.alloc (.cells xs.toArray k.t1)) := by
  have hT : k.T w (w.alloc (.cells xs.toArray k.t1)) := fun r hr => hr.heap (fun i hi => Below.heap_alloc _ _ _ hi)
  exact ⟨⟨h.1.alloc _, hT _ h.2⟩, hT, w.heap.size, rfl, allP_new w k.t1 k.d k.φ n xs hx hn hφ⟩
theorem SixKd.build {k : SixKd} {P : Program} {ops : Array Oper} {o : Oper} {a : Act} {w w3 : World} {Q : Exit → Act → World → Prop} {sl : Sl1} (h : k.J w3 sl w) (n : Nat) (xs : List Value) (hx : xs.length = n * k.d) (hn : n ≤ 1000) (hφ : ∀ j v, xs[j]? = some v → k.φ (j % k.d) v)
    (hg : o.guard = none) (hrun : (execOp a.eval o).run P w = .ok (.value (.slice (some ⟨w.heap.size, 0, none⟩) n n)) (w.alloc (.cells xs.toArray k.t1))) : SixStep P ops Q o (k.J w3 sl) k.T (k.B n) a w := by
  intro K hK
  have hw : Region.wanted o (yielded ops a.tmps) = true := by simp [Region.wanted, hg]
  rw [if_pos hw]
  unfold Oper.wp
  rw [hrun]
  obtain ⟨h1, h2, h3⟩ := SixKd.built h n xs hx hn hφ
  exact hK _ _ h1 h2 h3
theorem SixKd.appended {k : SixKd} {P : Program} {ops : Array Oper} {o : Oper} {a : Act} {w w3 : World} {Q : Exit → Act → World → Prop} {sl : Sl1} {n : Nat} {y : Value} (h : k.J w3 sl w) (hy : k.B n y w)
    (hg : o.guard = none) (s x : Operand) (t : TypeId) (hop : o.op = Op.call { callee := Callee.builtin Builtin.append, args := #[s, x], argTypes := #[t, t] })
    (bytes : Nat) (i : TypeInfo) (z : Value) (h1 : P.underlying t = some (.slice k.t1)) (h2 : P.info? k.t1 = some i) (h3 : i.zero = some z) (h4 : i.size = k.d) (h5 : i.bytes = bytes) (h6 : z.cells.size = k.d) (hd : 0 < k.d) (hby : bytes ≤ 100)
    (hone : ∀ j v, k.φ j v → v.oneCell' = true) (hs : a.eval s = .slice sl.a sl.n sl.c) (hx : a.eval x = y) (hn : 0 < n) (hb : sl.n + n ≤ 100000) : SixStep P ops Q o (k.J w3 sl) k.T (k.R w3 sl n) a w := by
  intro K hK
  obtain ⟨g, rfl, ha⟩ := hy
  refine step_append_kind hg s x t hop k.t1 k.d bytes i z h1 h2 h3 h4 h5 h6 hd hby k.φ hone sl hs h.2 g n n hx ha hn hb ?_
  intro r w' hrn hra hT hkp hat
  refine hK _ _ ⟨h.1.trans hkp, hT _ h.2⟩ hT ⟨r, rfl, hrn, hra, fun b hb' => ?_⟩
  rcases hat with e | ⟨b', e, hge, _⟩
  · left; rw [← e]; exact hb'
  · right; rw [e] at hb'; simp only [Option.some.injEq] at hb'; have := h.1.size; omega
theorem evs_set1 (M : List Ev) (k : Nat) (hk : k < M.length) (E : Ev) : (((((evs M).set (k * 5 + 0) (.int .i64 E.src)).set (k * 5 + 1) (.int .i64 E.seq)).set (k * 5 + 2) (.int .i64 E.ts)).set (k * 5 + 3) (.int .i64 E.kind)).set (k * 5 + 4) (.int .i64 E.val) = evs (M.set k E) := by
  unfold evs
  rw [flatMap_set Ev.vals 5 Ev.len M k 0 (by omega) hk _ { M[k] with src := E.src } rfl,
    flatMap_set Ev.vals 5 Ev.len _ k 1 (by omega) (by simpa using hk) _ { M[k] with src := E.src, seq := E.seq } (by simp [Ev.vals]), List.set_set,
    flatMap_set Ev.vals 5 Ev.len _ k 2 (by omega) (by simpa using hk) _ { M[k] with src := E.src, seq := E.seq, ts := E.ts } (by simp [Ev.vals]), List.set_set,
    flatMap_set Ev.vals 5 Ev.len _ k 3 (by omega) (by simpa using hk) _ { M[k] with src := E.src, seq := E.seq, ts := E.ts, kind := E.kind } (by simp [Ev.vals]), List.set_set,
    flatMap_set Ev.vals 5 Ev.len _ k 4 (by omega) (by simpa using hk) _ E (by simp [Ev.vals]), List.set_set]
def setEv1 (w : World) (g k : Nat) (E : Ev) : World := ((((w.setCell ⟨g, k * 5, none⟩ (.int .i64 E.src)).setCell ⟨g, k * 5 + 1, none⟩ (.int .i64 E.seq)).setCell ⟨g, k * 5 + 2, none⟩ (.int .i64 E.ts)).setCell ⟨g, k * 5 + 3, none⟩ (.int .i64 E.kind)).setCell ⟨g, k * 5 + 4, none⟩ (.int .i64 E.val)
theorem row_setEv1 {w : World} {t : TypeId} {g n c k : Nat} {M : List Ev} {E : Ev} (h : Row w t 5 (some ⟨g, 0, none⟩) n c (evs M)) (hk : k < M.length) : Row (setEv1 w g k E) t 5 (some ⟨g, 0, none⟩) n c (evs (M.set k E)) := by
  rw [← evs_set1 M k hk E]
  exact ((((h.set (k * 5) _).set (k * 5 + 1) _).set (k * 5 + 2) _).set (k * 5 + 3) _).set (k * 5 + 4) _
theorem kept_setEv1 {S : Nat → Prop} {a w : World} {g k : Nat} {E : Ev} (h : Kept S a w) (hS : g < a.heap.size → S g) : Kept S a (setEv1 w g k E) :=
  ((((h.setCell hS _).setCell hS _).setCell hS _).setCell hS _).setCell hS _
theorem rep_drop1 {α : Type} (L : List α) (E : α) (k : Nat) (hk : k < L.length) : (List.replicate k E ++ L.drop k).set k E = List.replicate (k + 1) E ++ L.drop (k + 1) := by
  rw [List.set_append_right _ _ (by simp), List.length_replicate, Nat.sub_self, List.drop_eq_getElem_cons hk, List.set_cons_zero, List.replicate_succ', List.append_assoc]
  rfl
theorem evs_phi (EE : Ev) (k : Nat) : ∀ j v, (evs (List.replicate k EE))[j]? = some v → EE.vals[j % 5]? = some v := by
  intro j v hv
  have hlt := (List.getElem?_eq_some_iff.1 hv).1
  have hl : (evs (List.replicate k EE)).length = k * 5 := by unfold evs; rw [flatMap_len _ 5 Ev.len]; simp
  have h := flatMap_get Ev.vals 5 Ev.len (List.replicate k EE) (j / 5) (j % 5) (Nat.mod_lt _ (by omega)) (by simp; omega)
  rw [show j / 5 * 5 + j % 5 = j by omega] at h
  have h2 : (evs (List.replicate k EE))[j]? = _ := h
  rw [hv] at h2
  simpa using h2.symm
theorem rep_phi {v0 : Value} {φ : Nat → Value → Prop} (h : ∀ o, φ o v0) (k : Nat) : ∀ j v, (List.replicate k v0)[j]? = some v → φ (j % 1) v := by
  intro j v hv
  have := List.mem_of_getElem? hv
  rw [List.mem_replicate] at this
  rw [this.2]; exact h _
end Go.Proofs.YtghcololkgeoeabGreat
namespace Go.Proofs.YtghcololkgeoeabGreat
open Go.RowKit
set_option linter.unusedVariables false
set_option linter.unusedSimpArgs false

structure E1 where
  a : Option Addr
  c : Nat
  sl : List Sl1
  V : List Nat
def E1.val (e : E1) : Value := .slice e.a e.sl.length e.c
def E1.fp (e : E1) : List (Option Nat) := bk e.a :: (e.sl.map (fun s => bk s.a) ++ e.V.map some)
def fp1 (l : List E1) : List (Option Nat) := l.flatMap E1.fp
structure Kd where
  t3 : TypeId
  t2 : TypeId
  t1 : TypeId
  ti : TypeId
  d : Nat
  φ : Nat → List Nat → Nat → Value → Prop
  m : Nat → Value
def Kd.six (K : Kd) (i : Nat) (V : List Nat) : SixKd := ⟨K.t1, K.d, K.φ i V⟩
structure Owns1 (w : World) (K : Kd) (i : Nat) (e : E1) : Prop where
  row : Row w K.t2 1 e.a e.sl.length e.c (e.sl.map Sl1.val)
  len : e.sl.length ≤ 1000
  each : ∀ s ∈ e.sl, AllP w K.t1 K.d (K.φ i e.V) s ∧ s.n ≤ 100000
  inner : ∀ g ∈ e.V, Blk w g K.ti [K.m i]
structure Lists1 (w : World) (K : Kd) (a : Option Addr) (c : Nat) (l : List E1) : Prop where
  row : Row w K.t3 1 a l.length c (l.map E1.val)
  each : ∀ (i : Nat) e, l[i]? = some e → Owns1 w K i e
theorem Owns1.kept {S : Nat → Prop} {w w' : World} {K : Kd} {i : Nat} {e : E1} (h : Owns1 w K i e) (hk : Kept S w w') (hn : ∀ k, some k ∈ e.fp → ¬ S k) : Owns1 w' K i e :=
  ⟨h.row.kept hk (fun k e' => hn k (by simp [E1.fp, e'])), h.len, fun s hs => ⟨AllP.kept (h.each s hs).1 hk (fun k e' => hn k (by simp only [E1.fp, List.mem_cons, List.mem_append, List.mem_map]; exact Or.inr (Or.inl ⟨s, hs, e'⟩))), (h.each s hs).2⟩,
    fun g hg => (h.inner g hg).kept hk (hn g (by simp only [E1.fp, List.mem_cons, List.mem_append, List.mem_map]; exact Or.inr (Or.inr ⟨g, hg, rfl⟩)))⟩
theorem Lists1.kept {S : Nat → Prop} {w w' : World} {K : Kd} {a : Option Addr} {c : Nat} {l : List E1} (h : Lists1 w K a c l) (hk : Kept S w w') (ha : ∀ k, bk a = some k → ¬ S k) (hn : ∀ k, some k ∈ fp1 l → ¬ S k) : Lists1 w' K a c l :=
  ⟨h.row.kept hk ha, fun i e he => (h.each i e he).kept hk (fun k hk' => hn k (by simp only [fp1, List.mem_flatMap]; exact ⟨e, List.mem_of_getElem? he, hk'⟩))⟩
theorem Lists1.below {w w' : World} {K : Kd} {a : Option Addr} {c : Nat} {l : List E1} (h : Lists1 w K a c l) (hb : Below w.heap.size w w') : Lists1 w' K a c l :=
  h.kept (below_kept hb (fun _ => False)) (fun _ _ e => e) (fun _ _ e => e)
theorem Lists1.lt {w : World} {K : Kd} {a : Option Addr} {c : Nat} {l : List E1} (h : Lists1 w K a c l) : ∀ k, some k ∈ fp1 l → k < w.heap.size := by
  intro k hk
  simp only [fp1, List.mem_flatMap] at hk
  obtain ⟨e, he, hk⟩ := hk
  obtain ⟨i, hi, rfl⟩ := List.mem_iff_getElem.1 he
  have ho := h.each i _ (List.getElem?_eq_getElem hi)
  simp only [E1.fp, List.mem_cons, List.mem_append, List.mem_map, Option.some.injEq] at hk
  rcases hk with hk | ⟨s, hs, hk⟩ | ⟨g, hg, rfl⟩
  · exact ho.row.lt hk.symm
  · exact (ho.each s hs).1.lt hk
  · exact (ho.inner g hg).lt
theorem Lists1.nil (w : World) (K : Kd) : Lists1 w K none 0 [] := ⟨Row.nil _ _ _, fun i e he => by simp at he⟩
theorem Lists1.slot {w : World} {K : Kd} {a : Option Addr} {c : Nat} {l : List E1} (h : Lists1 w K a c l) (k : Nat) (hk : k < l.length) : ∃ g, a = some ⟨g, 0, none⟩ ∧ w.cell? ⟨g, k, none⟩ = some (.slice l[k].a l[k].sl.length l[k].c) := by
  obtain ⟨g, e, _, _, hc, _⟩ := h.row.form (by omega)
  exact ⟨g, e, by rw [hc k (by omega)]; simp [E1.val, hk]⟩
theorem Owns1.slot {w : World} {K : Kd} {i : Nat} {e : E1} (h : Owns1 w K i e) (k : Nat) (hk : k < e.sl.length) : ∃ g, e.a = some ⟨g, 0, none⟩ ∧ w.cell? ⟨g, k, none⟩ = some (.slice e.sl[k].a e.sl[k].n e.sl[k].c) := by
  obtain ⟨g, e', _, _, hc, _⟩ := h.row.form (by omega)
  exact ⟨g, e', by rw [hc k (by omega)]; simp [Sl1.val, hk]⟩
def Owned1 (K : Kd) (w w' : World) (wb : Nat) (tw : TypeId) (cs : List Value) (q : Nat) (a sa : Option Addr) (V : List Nat) (l : List E1) : Prop := ∃ (a' : Option Addr) (c' : Nat) (E : E1),
  Blk w' wb tw (cs.set q (.slice a' (l.length + 1) c')) ∧ Lists1 w' K a' c' (l ++ [E]) ∧ Kept (fun k => k = wb ∨ bk a = some k ∨ bk sa = some k) w w' ∧
  (∀ k, some k ∈ E.fp → bk sa = some k ∨ k ∈ V ∨ w.heap.size ≤ k) ∧ (∀ k, bk a' = some k → bk a = some k ∨ w.heap.size ≤ k) ∧ (∀ k, bk a' = some k → some k ∉ fp1 (l ++ [E]))
theorem Owned1.from {K : Kd} {w w3 w' : World} {wb : Nat} {tw : TypeId} {cs : List Value} {q : Nat} {a sa : Option Addr} {V : List Nat} {l : List E1} (hb : Kept (fun k => bk sa = some k) w w3) (h : Owned1 K w3 w' wb tw cs q a sa V l) : Owned1 K w w' wb tw cs q a sa V l := by
  obtain ⟨a', c', E, h1, h2, h3, h4, h5, h6⟩ := h
  have := hb.size
  exact ⟨a', c', E, h1, h2, (hb.mono (fun k _ e => Or.inr (Or.inr e))).trans h3, fun k hk => (h4 k hk).imp id (fun e => e.imp id (fun e => by omega)), fun k hk => (h5 k hk).imp id (fun e => by omega), h6⟩
theorem own1_close {K : Kd} {w3 W w1 : World} {wb : Nat} {tw : TypeId} {cs : List Value} {q : Nat} {a sa : Option Addr} {c sc n gg cap : Nat} {V : List Nat} {l : List E1} {r1 r2 r3 : Sl1}
    (hB : Blk w3 wb tw cs) (hL : Lists1 w3 K a c l) (hsl : ∀ k, bk sa = some k → k < w3.heap.size)
    (d1 : bk sa ≠ some wb) (d2 : ∀ k, bk sa = some k → bk a ≠ some k ∧ some k ∉ fp1 l) (d3 : bk a ≠ some wb) (d4 : some wb ∉ fp1 l) (d5 : ∀ k, bk a = some k → some k ∉ fp1 l)
    (dV : ∀ g ∈ V, Blk w3 g K.ti [K.m l.length] ∧ g ≠ wb ∧ bk a ≠ some g ∧ bk sa ≠ some g)
    (hJ : (K.six l.length V).J w3 ⟨sa, n, sc⟩ W) (R1 : (K.six l.length V).R w3 ⟨sa, n, sc⟩ 1 r1.val W) (R2 : (K.six l.length V).R w3 ⟨sa, n, sc⟩ 2 r2.val W) (R3 : (K.six l.length V).R w3 ⟨sa, n, sc⟩ 6 r3.val W) (hn : n ≤ 1000)
    (hown1 : w1.ownsRow 0 K.t3 1 (.slice (some ⟨gg, 0, none⟩) (l.length + 1) cap) (l.length + 1) (l.map E1.val ++ [.slice (some ⟨W.heap.size, 0, none⟩) 4 4]))
    (hgrow : ((W.alloc (.cells #[.slice sa n sc, .slice r1.a r1.n r1.c, .slice r2.a r2.n r2.c, .slice r3.a r3.n r3.c] K.t2)).alloc (.cells #[.slice (some ⟨W.heap.size, 0, none⟩) 4 4] K.t3)).grownBy w1 (Value.slice a l.length c).ownBlock)
    (hat : (Value.slice a l.length c).ownBlock = some gg ∨ gg = W.heap.size + 2) : Owned1 K w3 (w1.setCell ⟨wb, q, none⟩ (.slice (some ⟨gg, 0, none⟩) (l.length + 1) cap)) wb tw cs q a sa V l := by
  rw [bk_own] at hgrow hat
  obtain ⟨hK', A0⟩ := hJ
  have un : ∀ {r r' : Sl1}, r.val = r'.val → r' = r := by
    intro r r' e
    cases r; cases r'; simp only [Sl1.val, Value.slice.injEq] at e; obtain ⟨rfl, rfl, rfl⟩ := e; rfl
  obtain ⟨r1', e1, N1, A1, T1⟩ := R1
  obtain rfl := un e1
  obtain ⟨r2', e2, N2, A2, T2⟩ := R2
  obtain rfl := un e2
  obtain ⟨r3', e3, N3, A3, T3⟩ := R3
  obtain rfl := un e3
  clear e1 e2 e3
  simp only [Kd.six] at A0 A1 A2 A3
  simp only at hK' N1 N2 N3 T1 T2 T3
  have hK : Kept (fun b => bk sa = some b ∨ bk a = some b) w3 W := hK'.mono (fun k _ e => Or.inl e)
  have hwbl := hB.lt
  have hal : ∀ k, bk a = some k → k < w3.heap.size := fun k e => hL.row.lt e
  have hll := hL.lt
  have sW := hK.size
  have Kw : Kept (fun b => bk sa = some b ∨ bk a = some b) w3 w1 := ((hK.alloc _).alloc _).grown hgrow (fun k _ e => Or.inr e)
  have K' : Kept (fun k => k = wb ∨ bk a = some k ∨ bk sa = some k) w3 (w1.setCell ⟨wb, q, none⟩ (.slice (some ⟨gg, 0, none⟩) (l.length + 1) cap)) :=
    (Kw.mono (S' := fun k => k = wb ∨ bk a = some k ∨ bk sa = some k) (fun k _ e => e.elim (fun e => Or.inr (Or.inr e)) (fun e => Or.inr (Or.inl e)))).setCell (fun _ => Or.inl rfl) _
  have KW : Kept (fun b => bk a = some b) W w1 := (((Kept.refl (fun b => bk a = some b) W).alloc _).alloc _).grown hgrow (fun k _ e => e)
  have KW' : Kept (fun b => bk a = some b ∨ b = wb) W (w1.setCell ⟨wb, q, none⟩ (.slice (some ⟨gg, 0, none⟩) (l.length + 1) cap)) := (KW.mono (S' := fun b => bk a = some b ∨ b = wb) (fun k _ e => Or.inl e)).setCell (fun _ => Or.inr rfl) _
  have hggwb : gg ≠ wb := by
    intro e
    rcases hat with hat | hat
    · exact d3 (by rw [hat, e])
    · omega
  have fr : ∀ r : Sl1, AllP W K.t1 K.d (K.φ l.length V) r → (∀ b, bk r.a = some b → bk sa = some b ∨ w3.heap.size ≤ b) → AllP (w1.setCell ⟨wb, q, none⟩ (.slice (some ⟨gg, 0, none⟩) (l.length + 1) cap)) K.t1 K.d (K.φ l.length V) r := by
    intro r hr ht
    refine AllP.kept hr KW' (fun k e f => ?_)
    rcases f with f | f
    · rcases ht k e with g | g
      · exact (d2 k g).1 f
      · have := hal k f; omega
    · subst f
      rcases ht k e with g | g
      · exact d1 g
      · omega
  refine ⟨some ⟨gg, 0, none⟩, cap, ⟨some ⟨W.heap.size, 0, none⟩, 4, [⟨sa, n, sc⟩, r1', r2', r3'], V⟩, ?_, ⟨?_, ?_⟩, K', ?_, ?_, ?_⟩
  · exact (hB.kept Kw (fun e => e.elim (fun e => d1 e) (fun e => d3 e))).set q (.slice (some ⟨gg, 0, none⟩) (l.length + 1) cap)
  · have := Row.other (a := some ⟨gg, 0, none⟩) hown1 (b := wb) (o := q) (by simp [bk]; exact hggwb) (.slice (some ⟨gg, 0, none⟩) (l.length + 1) cap)
    rw [List.map_append, List.length_append]
    exact this
  · intro i e he
    rw [List.getElem?_append] at he
    split at he
    · refine (hL.each i e he).kept K' (fun k hk f => ?_)
      have hk' : some k ∈ fp1 l := by simp only [fp1, List.mem_flatMap]; exact ⟨e, List.mem_of_getElem? he, hk⟩
      rcases f with f | f | f
      · subst f; exact d4 hk'
      · exact d5 k f hk'
      · exact (d2 k f).2 hk'
    · rename_i hge
      have hi : i = l.length := by
        have := (List.getElem?_eq_some_iff.1 he).1
        simp at this; omega
      subst hi
      simp only [Nat.sub_self, List.getElem?_cons_zero, Option.some.injEq] at he
      subst he
      refine ⟨?_, by simp, ?_, ?_⟩
      · have hb := blk_alloc W [.slice sa n sc, .slice r1'.a r1'.n r1'.c, .slice r2'.a r2'.n r2'.c, .slice r3'.a r3'.n r3'.c] K.t2
        have hb1 : Blk w1 W.heap.size K.t2 [.slice sa n sc, .slice r1'.a r1'.n r1'.c, .slice r2'.a r2'.n r2'.c, .slice r3'.a r3'.n r3'.c] := (hb.alloc _).grown hgrow (fun e => by have := hal _ e; omega)
        have hb2 := hb1.other (a := ⟨wb, q, none⟩) (by simp only; omega) (.slice (some ⟨gg, 0, none⟩) (l.length + 1) cap)
        exact Row.mk' hb2 (by simp) (by simp) (by show 4 ≤ maxLen; unfold maxLen; omega) (by simp [Sl1.val])
      · intro s hs
        simp only [List.mem_cons, List.not_mem_nil, or_false] at hs
        rcases hs with rfl | rfl | rfl | rfl
        · exact ⟨fr _ A0 (fun b hb => Or.inl hb), by simp only; omega⟩
        · exact ⟨fr _ A1 T1, by omega⟩
        · exact ⟨fr _ A2 T2, by omega⟩
        · exact ⟨fr _ A3 T3, by omega⟩
      · intro g hg
        obtain ⟨b1, b2, b3, b4⟩ := dV g hg
        exact b1.kept K' (fun e => by rcases e with e | e | e <;> contradiction)
  · intro k hk
    simp only [E1.fp, List.map_cons, List.map_nil, List.mem_cons, List.not_mem_nil, or_false, List.mem_append, List.mem_map, Option.some.injEq] at hk
    rcases hk with hk | (hk | hk | hk | hk) | ⟨g, hg, rfl⟩
    · simp only [bk, Option.map_some, Option.some.injEq] at hk; right; right; omega
    · exact Or.inl hk.symm
    · rcases T1 k hk.symm with e | e
      · exact Or.inl e
      · right; right; omega
    · rcases T2 k hk.symm with e | e
      · exact Or.inl e
      · right; right; omega
    · rcases T3 k hk.symm with e | e
      · exact Or.inl e
      · right; right; omega
    · exact Or.inr (Or.inl hg)
  · intro k hk
    simp only [bk, Option.map_some, Option.some.injEq] at hk
    subst hk
    rcases hat with e | e
    · exact Or.inl e
    · right; omega
  · intro k hk hm
    simp only [bk, Option.map_some, Option.some.injEq] at hk
    subst hk
    simp only [fp1, List.flatMap_append, List.mem_append, List.flatMap_cons, List.flatMap_nil, List.append_nil] at hm
    have hne : ∀ r : Sl1, AllP W K.t1 K.d (K.φ l.length V) r → (∀ b, bk r.a = some b → bk sa = some b ∨ w3.heap.size ≤ b) → bk r.a ≠ some gg := by
      intro r hr ht e
      have hlt := hr.lt e
      rcases hat with f | f
      · rcases ht _ e with g | g
        · exact (d2 _ g).1 f
        · have := hal _ f; omega
      · omega
    rcases hm with hm | hm
    · rcases hat with f | f
      · exact d5 _ f hm
      · have := hll _ hm; omega
    · simp only [E1.fp, List.map_cons, List.map_nil, List.mem_cons, List.not_mem_nil, or_false, List.mem_append, List.mem_map, Option.some.injEq] at hm
      rcases hm with hm | (hm | hm | hm | hm) | ⟨g, hg, e⟩
      · simp only [bk, Option.map_some, Option.some.injEq] at hm
        rcases hat with f | f
        · have := hal _ f; omega
        · omega
      · exact hne _ A0 (fun b hb => Or.inl hb) hm.symm
      · exact hne _ A1 T1 hm.symm
      · exact hne _ A2 T2 hm.symm
      · exact hne _ A3 T3 hm.symm
      · obtain ⟨b1, b2, b3, b4⟩ := dV g hg
        rcases hat with f | f
        · exact b3 (by rw [f, e])
        · have := b1.lt; omega
end Go.Proofs.YtghcololkgeoeabGreat
namespace Go.Proofs.YtghcololkgeoeabGreat
open Go.RowKit
set_option linter.unusedVariables false
set_option linter.unusedSimpArgs false
theorem AllP.at_ {w : World} {t : TypeId} {d : Nat} {φ : Nat → Value → Prop} {s : Sl1} (h : AllP w t d φ s) {j : Nat} (hj : j < s.n * d) : ∃ g v, s.a = some ⟨g, 0, none⟩ ∧ w.cell? ⟨g, j, none⟩ = some v ∧ φ (j % d) v ∧ g < w.heap.size ∧ s.n ≤ s.c := by
  obtain ⟨vs, hr, hv⟩ := h
  have hn : 0 < s.n := by
    rcases Nat.eq_zero_or_pos s.n with e | e
    · rw [e] at hj; simp at hj
    · exact e
  obtain ⟨g, e, hnc, _, hc, _⟩ := hr.form hn
  have hl : j < vs.length := by rw [hr.1]; exact hj
  have h1 := hc j hj
  rw [List.getElem?_eq_getElem hl] at h1
  exact ⟨g, vs[j], e, h1, hv j _ (List.getElem?_eq_getElem hl), hr.lt (by rw [e]; rfl), hnc⟩
theorem AllP.ev_ {w : World} {t : TypeId} {m : Ev} {s : Sl1} (h : AllP w t 5 (fun o v => m.vals[o]? = some v) s) {k : Nat} (hk : k < s.n) : ∃ g, s.a = some ⟨g, 0, none⟩ ∧ s.n ≤ s.c ∧ w.cell? ⟨g, k * 5, none⟩ = some (.int .i64 m.src) ∧ w.cell? ⟨g, k * 5 + 1, none⟩ = some (.int .i64 m.seq) ∧ w.cell? ⟨g, k * 5 + 2, none⟩ = some (.int .i64 m.ts) ∧ w.cell? ⟨g, k * 5 + 3, none⟩ = some (.int .i64 m.kind) ∧ w.cell? ⟨g, k * 5 + 4, none⟩ = some (.int .i64 m.val) := by
  have key : ∀ o, o < 5 → ∃ g v, s.a = some ⟨g, 0, none⟩ ∧ w.cell? ⟨g, k * 5 + o, none⟩ = some v ∧ m.vals[o]? = some v ∧ s.n ≤ s.c := by
    intro o ho
    obtain ⟨g, v, e, hc, hv, _, hnc⟩ := h.at_ (j := k * 5 + o) (by omega)
    rw [show (k * 5 + o) % 5 = o by omega] at hv
    exact ⟨g, v, e, hc, hv, hnc⟩
  obtain ⟨g, v0, e, c0, p0, hnc⟩ := key 0 (by omega)
  obtain ⟨g1, v1, e1, c1, p1, _⟩ := key 1 (by omega)
  obtain ⟨g2, v2, e2, c2, p2, _⟩ := key 2 (by omega)
  obtain ⟨g3, v3, e3, c3, p3, _⟩ := key 3 (by omega)
  obtain ⟨g4, v4, e4, c4, p4, _⟩ := key 4 (by omega)
  rw [e] at e1 e2 e3 e4
  simp only [Option.some.injEq, Addr.mk.injEq, and_true] at e1 e2 e3 e4
  subst e1 e2 e3 e4
  simp only [Ev.vals, List.getElem?_cons_zero, List.getElem?_cons_succ, Option.some.injEq] at p0 p1 p2 p3 p4
  subst p0 p1 p2 p3 p4
  exact ⟨g, e, hnc, c0, c1, c2, c3, c4⟩
theorem Owns1.below {w w' : World} {K : Kd} {i : Nat} {e : E1} (h : Owns1 w K i e) (hb : Below w.heap.size w w') : Owns1 w' K i e := h.kept (below_kept hb (fun _ => False)) (fun _ _ e => e)
end Go.Proofs.YtghcololkgeoeabGreat
