import Derived.Test.YtghcololkgeoeaaDoorPartM1
namespace Go.Proofs.YtghcololkgeoeaaDoor
open Go.RowKit
set_option linter.unusedVariables false
set_option linter.unusedSimpArgs false

/-! ### numbers as texts, read again -/
theorem itoa_len {n : Int} {k : Nat} (h : n.natAbs < 10 ^ (k + 1)) : (Lib.itoa n).length ≤ k + 2 ∧ (0 ≤ n → (Lib.itoa n).length ≤ k + 1) := by
  have := dec_len k n.natAbs h
  unfold Lib.itoa
  split
  · refine ⟨by simp only [List.length_cons]; omega, fun h => by omega⟩
  · rename_i h0
    rw [show n.toNat = n.natAbs by omega]
    exact ⟨by omega, fun _ => this⟩
theorem digLen_text {D B : List UInt8} (hD : ∀ c ∈ D, isDig c = true) (hB : ∀ c, B.head? = some c → isDig c = false) (hl : D.length ≤ 13) : digLen (D ++ B) = D.length := by
  unfold digLen
  rw [List.takeWhile_append_of_pos hD]
  have : B.takeWhile isDig = [] := by
    cases B with
    | nil => rfl
    | cons b B => rw [List.takeWhile_cons, if_neg (by rw [hB b rfl]; decide)]
  rw [this, List.append_nil]
  omega
theorem dig_not45 {c : UInt8} (h : isDig c = true) : (c.toNat : Int) ≠ 45 := by simp only [isDig, decide_eq_true_eq] at h; omega
/-- a number that stands in a line -/
theorem numAt_text {A B : List UInt8} {n : Int} (hn : n.natAbs < 10 ^ 13) (hB : ∀ c, B.head? = some c → isDig c = false) : numAt (A ++ (Lib.itoa n ++ B)) A.length = (n, (A.length : Int) + (Lib.itoa n).length) := by
  obtain ⟨d1, d2, d3⟩ := dec_digs n.natAbs
  have d4 := dec_len 12 n.natAbs hn
  unfold numAt
  by_cases h : n < 0
  · have e : Lib.itoa n = 45 :: Lib.decDigits n.natAbs := by unfold Lib.itoa; rw [if_pos h]
    have hneg : (decide (A.length < (A ++ (Lib.itoa n ++ B)).length) && decide (byteAt (A ++ (Lib.itoa n ++ B)) A.length = 45)) = true := by
      rw [e]
      simp [byteAt]
    have hd : (A ++ (Lib.itoa n ++ B)).drop (A.length + 1) = Lib.decDigits n.natAbs ++ B := by
      rw [e, show A ++ (45 :: Lib.decDigits n.natAbs ++ B) = (A ++ [45]) ++ (Lib.decDigits n.natAbs ++ B) by simp, List.drop_append_of_le_length (by simp), List.drop_eq_nil_of_le (by simp)]
      simp
    simp only [hneg, if_true, hd, digLen_text d1 hB d4]
    rw [if_neg (by omega), List.take_append_of_le_length (Nat.le_refl _), List.take_of_length_le (Nat.le_refl _), d2, e]
    simp only [List.length_cons, Prod.mk.injEq]
    omega
  · have e : Lib.itoa n = Lib.decDigits n.natAbs := by unfold Lib.itoa; rw [if_neg h, show n.toNat = n.natAbs by omega]
    have hneg : (decide (A.length < (A ++ (Lib.itoa n ++ B)).length) && decide (byteAt (A ++ (Lib.itoa n ++ B)) A.length = 45)) = false := by
      rw [e]
      cases hdd : Lib.decDigits n.natAbs with
      | nil => rw [hdd] at d3; simp at d3
      | cons c r =>
        have hc := dig_not45 (d1 c (by rw [hdd]; simp))
        simp only [Bool.and_eq_false_iff, decide_eq_false_iff_not]
        right
        simp [byteAt]
        exact_mod_cast hc
    have hd : (A ++ (Lib.itoa n ++ B)).drop A.length = Lib.decDigits n.natAbs ++ B := by rw [e]; simp
    simp only [hneg, Bool.false_eq_true, if_false, hd, digLen_text d1 hB d4]
    rw [if_neg (by omega), List.take_append_of_le_length (Nat.le_refl _), List.take_of_length_le (Nat.le_refl _), d2, e]
    simp only [Prod.mk.injEq]
    exact ⟨by omega, trivial⟩
theorem blankAt_text {A B : List UInt8} : blankAt (A ++ 32 :: B) A.length = (A.length : Int) + 1 := by
  unfold blankAt
  rw [if_neg]
  simp [byteAt]
  omega
def punctLine (ts : Int) : List UInt8 := [80, 32] ++ Lib.itoa ts
def evLine (E : Ev) : List UInt8 := [69, 32] ++ Lib.itoa E.seq ++ [32] ++ Lib.itoa E.ts ++ [32] ++ [UInt8.ofNat E.kind.toNat] ++ [32] ++ Lib.itoa E.val
theorem punctOf_text {ts : Int} (h : ts.natAbs < 10 ^ 13) : punctOf (punctLine ts) = (ts, true) := by
  have hn := numAt_text (A := [80, 32]) (B := []) (n := ts) h (by simp)
  rw [List.append_nil] at hn
  unfold punctOf punctLine
  rw [if_pos (by simp), show (2 : Nat) = ([80, 32] : List UInt8).length from rfl, hn]
  simp
  omega
theorem dig32 : isDig 32 = false := by decide
structure EvOk (E : Ev) : Prop where
  src : E.src = 0
  seq : 0 ≤ E.seq ∧ E.seq < 1000000
  ts : -1099511627776 ≤ E.ts ∧ E.ts ≤ 1099511627776
  kind : 65 ≤ E.kind ∧ E.kind ≤ 90
  val : -1099511627776 ≤ E.val ∧ E.val ≤ 1099511627776
theorem evLine_spec {E : Ev} (h : EvOk E) : isEv (evLine E) = true ∧ evOf (evLine E) = E ∧ (evLine E).length ≤ 40 := by
  have hsq : E.seq.natAbs < 10 ^ 13 := by have := h.seq; omega
  have hts : E.ts.natAbs < 10 ^ 13 := by have := h.ts; omega
  have hvl : E.val.natAbs < 10 ^ 13 := by have := h.val; omega
  have hk : (UInt8.ofNat E.kind.toNat).toNat = E.kind.toNat := by rw [UInt8.toNat_ofNat']; have := h.kind; omega
  obtain ⟨S, hS⟩ : ∃ S, S = Lib.itoa E.seq := ⟨_, rfl⟩
  obtain ⟨T, hT⟩ : ∃ S, S = Lib.itoa E.ts := ⟨_, rfl⟩
  obtain ⟨V, hV⟩ : ∃ S, S = Lib.itoa E.val := ⟨_, rfl⟩
  obtain ⟨k, hkk⟩ : ∃ k, k = UInt8.ofNat E.kind.toNat := ⟨_, rfl⟩
  have hl : evLine E = [69, 32] ++ S ++ [32] ++ T ++ [32] ++ [k] ++ [32] ++ V := by unfold evLine; rw [hS, hT, hV, hkk]
  have n1 : numAt (evLine E) 2 = (E.seq, 2 + (S.length : Int)) := by
    have := numAt_text (A := [69, 32]) (B := [32] ++ T ++ [32] ++ [k] ++ [32] ++ V) (n := E.seq) hsq (by intro c hc; simp at hc; rw [← hc]; exact dig32)
    rw [← hS] at this
    rw [hl]
    simpa [List.append_assoc] using this
  have p1 : evP1 (evLine E) = ((2 + S.length + 1 : Nat) : Int) := by
    unfold evP1
    rw [n1]
    have := blankAt_text (A := [69, 32] ++ S) (B := T ++ [32] ++ [k] ++ [32] ++ V)
    have e1 : (([69, 32] ++ S).length : Int) = 2 + (S.length : Int) := by simp; omega
    rw [e1] at this
    rw [hl]
    simp only [List.append_assoc, List.cons_append, List.nil_append] at this ⊢
    rw [this]; omega
  have n2 : numAt (evLine E) (2 + S.length + 1) = (E.ts, ((2 + S.length + 1 : Nat) : Int) + (T.length : Int)) := by
    have := numAt_text (A := [69, 32] ++ S ++ [32]) (B := [32] ++ [k] ++ [32] ++ V) (n := E.ts) hts (by intro c hc; simp at hc; rw [← hc]; exact dig32)
    have e1 : ([69, 32] ++ S ++ [32]).length = 2 + S.length + 1 := by simp; omega
    rw [← hT, e1] at this
    rw [hl]
    simpa [List.append_assoc] using this
  have p2 : evP2 (evLine E) = ((2 + S.length + 1 + T.length + 1 : Nat) : Int) := by
    unfold evP2
    rw [p1, Int.toNat_natCast, n2]
    have := blankAt_text (A := [69, 32] ++ S ++ [32] ++ T) (B := [k] ++ [32] ++ V)
    have e1 : (([69, 32] ++ S ++ [32] ++ T).length : Int) = ((2 + S.length + 1 : Nat) : Int) + (T.length : Int) := by simp; omega
    rw [e1] at this
    rw [hl]
    simp only [List.append_assoc, List.cons_append, List.nil_append] at this ⊢
    rw [this]; omega
  have b2 : byteAt (evLine E) (2 + S.length + 1 + T.length + 1) = E.kind := by
    rw [hl]
    have e1 : ([69, 32] ++ S ++ [32] ++ T ++ [32]).length = 2 + S.length + 1 + T.length + 1 := by simp; omega
    have e2 : [69, 32] ++ S ++ [32] ++ T ++ [32] ++ [k] ++ [32] ++ V = ([69, 32] ++ S ++ [32] ++ T ++ [32]) ++ (k :: ([32] ++ V)) := by simp
    rw [e2]
    unfold byteAt
    rw [← e1, List.getElem?_append_right (Nat.le_refl _)]
    simp only [Nat.sub_self, List.getElem?_cons_zero, Option.getD_some]
    rw [hkk, hk]; have := h.kind; omega
  have p3 : evP3 (evLine E) = ((2 + S.length + 1 + T.length + 1 + 1 + 1 : Nat) : Int) := by
    unfold evP3
    rw [p2]
    have := blankAt_text (A := [69, 32] ++ S ++ [32] ++ T ++ [32] ++ [k]) (B := V)
    have e1 : (([69, 32] ++ S ++ [32] ++ T ++ [32] ++ [k]).length : Int) = ((2 + S.length + 1 + T.length + 1 : Nat) : Int) + 1 := by simp; omega
    rw [e1] at this
    rw [hl]
    simp only [List.append_assoc, List.cons_append, List.nil_append] at this ⊢
    rw [this]; omega
  have n3 : numAt (evLine E) (2 + S.length + 1 + T.length + 1 + 1 + 1) = (E.val, ((2 + S.length + 1 + T.length + 1 + 1 + 1 : Nat) : Int) + (V.length : Int)) := by
    have := numAt_text (A := [69, 32] ++ S ++ [32] ++ T ++ [32] ++ [k] ++ [32]) (B := []) (n := E.val) hvl (by simp)
    have e1 : ([69, 32] ++ S ++ [32] ++ T ++ [32] ++ [k] ++ [32]).length = 2 + S.length + 1 + T.length + 1 + 1 + 1 := by simp; omega
    rw [← hV, e1, List.append_nil] at this
    rw [hl]
    exact this
  have hlen : (evLine E).length = 2 + S.length + 1 + T.length + 1 + 1 + 1 + V.length := by rw [hl]; simp; omega
  have lS : S.length ≤ 6 := by rw [hS]; exact (itoa_len (n := E.seq) (k := 5) (by have := h.seq; omega)).2 h.seq.1
  have lT : T.length ≤ 14 := by rw [hT]; exact (itoa_len (n := E.ts) (k := 12) hts).1
  have lV : V.length ≤ 14 := by rw [hV]; exact (itoa_len (n := E.val) (k := 12) hvl).1
  refine ⟨?_, ?_, by omega⟩
  · unfold isEv
    rw [p1, p2, p3, Int.toNat_natCast, Int.toNat_natCast, b2, n3, hlen]
    have := h.kind
    rw [show (evLine E).take 2 == [69, 32] from by rw [hl]; simp]
    simp
    omega
  · unfold evOf
    rw [p1, p2, p3, Int.toNat_natCast, Int.toNat_natCast, Int.toNat_natCast, n1, n2, n3, b2]
    have := h.src
    cases E
    simp only [Ev.mk.injEq] at *
    simp_all
theorem punct_len {ts : Int} (h : -1099511627776 ≤ ts ∧ ts ≤ 1099511627776) : (punctLine ts).length ≤ 40 := by
  unfold punctLine
  have := (itoa_len (n := ts) (k := 12) (by omega)).1
  simp only [List.length_append, List.length_cons, List.length_nil]
  omega
theorem read_punct {ts : Int} (h : -1099511627776 ≤ ts ∧ ts ≤ 1099511627776) : readOf (punctLine ts) = ⟨2, zE, ts⟩ := by
  have e := punctOf_text (ts := ts) (by omega)
  have := readOf_punct (l := punctLine ts) (punct_len h) (by rw [e])
  rw [this, e]
theorem read_ev {E : Ev} (h : EvOk E) : readOf (evLine E) = ⟨1, E, 0⟩ := by
  obtain ⟨h1, h2, h3⟩ := evLine_spec h
  rw [readOf_ev h3 h1, h2]
end Go.Proofs.YtghcololkgeoeaaDoor
namespace Go.Proofs.YtghcololkgeoeaaDoor
open Go.RowKit
set_option linter.unusedVariables false
set_option linter.unusedSimpArgs false
attribute [local go_sem ↓] Go.wp_at_zero Go.wp_at_succ

def spTs (a : ActR) : Int := pk a.E.ts 2199023255553 - 1099511627776
def spEv (a : ActR) : Ev := if pk a.d 4 = 0 then ⟨0, 0, spTs a, 0, 0⟩ else ⟨0, pk a.E.seq 1000000, spTs a, 65 + pk a.E.kind 26, pk a.E.val 2199023255553 - 1099511627776⟩
def spLine (a : ActR) : List UInt8 := if pk a.d 4 = 0 then punctLine (spTs a) else evLine (spEv a)
structure EvI (E : Ev) : Prop where
  seq : I64 E.seq
  ts : I64 E.ts
  kind : I64 E.kind
  val : I64 E.val
theorem spTs_range (a : ActR) : -1099511627776 ≤ spTs a ∧ spTs a ≤ 1099511627776 := by
  have := pk_range (c := a.E.ts) (n := 2199023255553) (by omega)
  unfold spTs; omega
theorem spEv_ok {a : ActR} (h : ¬ pk a.d 4 = 0) : EvOk (spEv a) := by
  have h1 := pk_range (c := a.E.seq) (n := 1000000) (by omega)
  have h2 := pk_range (c := a.E.kind) (n := 26) (by omega)
  have h3 := pk_range (c := a.E.val) (n := 2199023255553) (by omega)
  have h4 := spTs_range a
  unfold spEv
  rw [if_neg h]
  exact ⟨rfl, by simp only; omega, h4, by simp only; omega, by simp only; omega⟩
theorem conv_one {w : World} {g : Nat} {kk : Int} {kb : UInt8} {K1 : ByteArray} (h : Blk w g 5 [.int .u8 kk]) (hk : (kb.toNat : Int) = kk ∧ kb = UInt8.ofNat kk.toNat) (hK : K1 = ⟨#[kb]⟩) : (convert 76 9 (.slice (some ⟨g, 0, none⟩) 1 1)).run Tryd.prog w = .ok (.string K1) w := by
  have hr : Row w 5 1 (some ⟨g, 0, none⟩) [kb].length 1 (bytesV [kb]) := by
    refine ⟨rfl, Or.inr ⟨g, 1, _, rfl, Nat.zero_le _, h, Nat.le_refl _, by unfold maxLen; omega, rfl, ?_⟩⟩
    simp [bytesV, hk.1]
  have := conv_line hr
  rw [hK]
  exact this
set_option maxRecDepth 100000 in
set_option maxHeartbeats 16000000 in
theorem spelt_any (a : ActR) (w : World) (ha : a.ok) (he : EvI a.E) (htab : ∀ u, Below w.heap.size w u → tab10 u) :
    Calls Tryd.prog 38 #[.agg #[.int .i64 a.d, .int .i64 a.s, .int .i64 a.n, .int .i64 a.E.src, .int .i64 a.E.seq, .int .i64 a.E.ts, .int .i64 a.E.kind, .int .i64 a.E.val]] w fun e w' => e = .returned (.tuple #[.string ⟨(spLine a ++ [10]).toArray⟩, .agg #[.int .i64 (spEv a).src, .int .i64 (spEv a).seq, .int .i64 (spEv a).ts, .int .i64 (spEv a).kind, .int .i64 (spEv a).val]]) ∧ Below w.heap.size w w' := by
  have hpT : ∀ u, Calls Tryd.prog 23 #[.int .i64 a.E.ts, .int .i64 2199023255553] u fun e w' => e = .returned (.int .i64 (pk a.E.ts 2199023255553)) ∧ u = w' := fun u => pick_any _ _ u he.ts (by omega) (by omega)
  have hpD : ∀ u, Calls Tryd.prog 23 #[.int .i64 a.d, .int .i64 4] u fun e w' => e = .returned (.int .i64 (pk a.d 4)) ∧ u = w' := fun u => pick_any _ _ u ha.1 (by omega) (by omega)
  have hpS : ∀ u, Calls Tryd.prog 23 #[.int .i64 a.E.seq, .int .i64 1000000] u fun e w' => e = .returned (.int .i64 (pk a.E.seq 1000000)) ∧ u = w' := fun u => pick_any _ _ u he.seq (by omega) (by omega)
  have hpK : ∀ u, Calls Tryd.prog 23 #[.int .i64 a.E.kind, .int .i64 26] u fun e w' => e = .returned (.int .i64 (pk a.E.kind 26)) ∧ u = w' := fun u => pick_any _ _ u he.kind (by omega) (by omega)
  have hpV : ∀ u, Calls Tryd.prog 23 #[.int .i64 a.E.val, .int .i64 2199023255553] u fun e w' => e = .returned (.int .i64 (pk a.E.val 2199023255553)) ∧ u = w' := fun u => pick_any _ _ u he.val (by omega) (by omega)
  have hsr := pk_range (c := a.E.seq) (n := 1000000) (by omega)
  have hkr := pk_range (c := a.E.kind) (n := 26) (by omega)
  have hvr := pk_range (c := a.E.val) (n := 2199023255553) (by omega)
  have htr := pk_range (c := a.E.ts) (n := 2199023255553) (by omega)
  have HSp : Hid (spTs a = pk a.E.ts 2199023255553 - 1099511627776) := rfl
  have HEv : Hid (¬ pk a.d 4 = 0 → spEv a = ⟨0, pk a.E.seq 1000000, spTs a, 65 + pk a.E.kind 26, pk a.E.val 2199023255553 - 1099511627776⟩) := fun h => by unfold spEv; rw [if_neg h]
  have HOk : Hid (¬ pk a.d 4 = 0 → EvOk (spEv a)) := fun h => spEv_ok h
  have HTr : Hid (-1099511627776 ≤ spTs a ∧ spTs a ≤ 1099511627776) := spTs_range a
  have HTab : Hid (∀ u, Below w.heap.size w u → tab10 u) := htab
  have HPv : Hid (pk a.d 4 = 0 → spEv a = ⟨0, 0, spTs a, 0, 0⟩ ∧ spLine a = punctLine (spTs a)) := fun h => by unfold spEv spLine; rw [if_pos h, if_pos h]; exact ⟨rfl, rfl⟩
  have HPe : Hid (¬ pk a.d 4 = 0 → spLine a = evLine (spEv a)) := fun h => by unfold spLine; rw [if_neg h]
  clear ha he htab
  have hito : ∀ (n : Int), -9223372036854775808 ≤ n → n ≤ 9223372036854775807 → ∀ u, Below w.heap.size w u → Calls Tryd.prog 65 #[.int .i64 n] u fun e w' => e = .returned (.string ⟨(Lib.itoa n).toArray⟩) ∧ Below u.heap.size u w' := fun n h1 h2 u hu => by
    refine (Tryd.strconv_Itoa n h1 h2 u (HTab.out u hu)).mono ?_
    rintro e w' ⟨he, k, os, rfl⟩
    exact ⟨he, Lib.below_grow u.heap.size u (Nat.le_refl _) k os⟩
  obtain ⟨w2, HW2⟩ := hex ((w.alloc (.cells a.cells.toArray 39)).alloc (.cells #[.int .i64 0, .int .i64 0, .int .i64 0, .int .i64 0, .int .i64 0] 37))
  obtain ⟨ab, HAb⟩ := hex w.heap.size
  obtain ⟨rb, HRb⟩ := hex (w.heap.size + 1)
  have HA2 : Hid (Blk w2 ab 39 a.cells) := by show Blk _ _ _ _; rw [HW2.out, HAb.out]; exact (blk_alloc _ _ _).alloc _
  have HR2 : Hid (Blk w2 rb 37 [.int .i64 0, .int .i64 0, .int .i64 0, .int .i64 0, .int .i64 0]) := by show Blk _ _ _ _; rw [HW2.out, HRb.out]; have := blk_alloc (w.alloc (.cells a.cells.toArray 39)) [.int .i64 0, .int .i64 0, .int .i64 0, .int .i64 0, .int .i64 0] 37; simpa using this
  have HB2 : Hid (Below w.heap.size w w2) := by show Below _ _ _; rw [HW2.out]; exact ((Below.refl _ _).alloc (Nat.le_refl _) _).alloc (by simp) _
  have HRw : Hid (w.heap.size ≤ rb) := by show _ ≤ _; rw [HRb.out]; omega
  have hw2 : (w.alloc (.cells #[.int .i64 a.d, .int .i64 a.s, .int .i64 a.n, .int .i64 a.E.src, .int .i64 a.E.seq, .int .i64 a.E.ts, .int .i64 a.E.kind, .int .i64 a.E.val] 39)).alloc (.cells #[.int .i64 0, .int .i64 0, .int .i64 0, .int .i64 0, .int .i64 0] 37) = w2 := HW2.out.symm
  go_enter Tryd.func38, Tryd.ntmps38
  go_upto_region 1 with fail
  rw [← HRb.out, ← HAb.out]
  clear hw2 HW2 HRb HAb
  have m0 := HA2.out.cell 0
  have m5 := HA2.out.cell 5
  simp only [ActR.cells, List.getElem?_cons_zero, List.getElem?_cons_succ] at m0 m5
  have hwt : IntKind.i64.wrap (pk a.E.ts 2199023255553 - 1099511627776) = spTs a := by rw [IntKind.wrap_i64, HSp.out]; omega
  go_upto_region 2 with (go_at_call 23; refine (hpT _).mono ?_; rintro e w' ⟨rfl, rfl⟩)
  clear hpT hwt HSp
  generalize spTs a = ts at *
  by_cases hd : pk a.d 4 = 0
  · rw [hd] at hpD
    obtain ⟨hE, hL⟩ := HPv.out hd
    have HE : Hid (spEv a = ⟨0, 0, ts, 0, 0⟩) := hE
    have HL : Hid (spLine a = punctLine ts) := hL
    clear hE hL hd HPv HPe HEv HOk
    have hit := hito ts (by have := HTr.out; omega) (by have := HTr.out; omega)
    obtain ⟨S, HS⟩ := hex (⟨(Lib.itoa ts).toArray⟩ : ByteArray)
    have hsl : S.size ≤ 14 := by rw [HS.out]; show (Lib.itoa ts).toArray.size ≤ 14; rw [List.size_toArray]; exact (itoa_len (n := ts) (k := 12) (by have := HTr.out; omega)).1
    rw [← HS.out] at hit
    have hcA : ¬ 9223372036854775807 < 2 + S.size := by omega
    have hcB : ¬ 9223372036854775807 < 2 + S.size + 1 := by omega
    go_upto_region 3 with (go_at_call 23; refine (hpD _).mono ?_; rintro e w' ⟨rfl, rfl⟩)
    clear hpD hpS hpK hpV m0 m5
    go_wp2_with (go_at_call 65; refine (hit _ HB2.out).mono ?_; rintro e w3 ⟨rfl, hb3⟩; have z0 := (HR2.out.below hb3 HR2.out.lt).cell 0; have z1 := (HR2.out.below hb3 HR2.out.lt).cell 1; have z2 := (HR2.out.below hb3 HR2.out.lt).cell 2; have z3 := (HR2.out.below hb3 HR2.out.lt).cell 3; have z4 := (HR2.out.below hb3 HR2.out.lt).cell 4; have y0 := (HR2.out.below hb3 HR2.out.lt).frozen 0; have y1 := (HR2.out.below hb3 HR2.out.lt).frozen 1; have y2 := (HR2.out.below hb3 HR2.out.lt).frozen 2; have y3 := (HR2.out.below hb3 HR2.out.lt).frozen 3; have y4 := (HR2.out.below hb3 HR2.out.lt).frozen 4; simp only [List.getElem?_cons_zero, List.getElem?_cons_succ] at z0 z1 z2 z3 z4)
    have hres : (⟨(spLine a ++ [10]).toArray⟩ : ByteArray) = (⟨#[80, 32]⟩ ++ S ++ ⟨#[10]⟩ : ByteArray) := by rw [HL.out, HS.out]; exact ByteArray.ext (by simp [punctLine])
    refine bodyPost_ret (v := .tuple #[.string ⟨(spLine a ++ [10]).toArray⟩, .agg #[.int .i64 (spEv a).src, .int .i64 (spEv a).seq, .int .i64 (spEv a).ts, .int .i64 (spEv a).kind, .int .i64 (spEv a).val]]) (by rw [hres, HE.out]; simp [results, Tryd.results38, go_sem, z0, z1, z2, z3, z4]) rfl ⟨rfl, ?_⟩
    have hbb := HB2.out.trans (hb3.mono HB2.out.size)
    exact ((((hbb.setCell (p := ⟨rb, _, none⟩) HRw.out _).setCell (p := ⟨rb, _, none⟩) HRw.out _).setCell (p := ⟨rb, _, none⟩) HRw.out _).setCell (p := ⟨rb, _, none⟩) HRw.out _).setCell (p := ⟨rb, _, none⟩) HRw.out _
  · have hdn : (pk a.d 4 == 0) = false := by rw [beq_eq_false_iff_ne]; exact hd
    have HE := HEv.out hd
    have HL := HPe.out hd
    have HO := HOk.out hd
    generalize pk a.d 4 = dd at *
    go_upto_region 4 with (go_at_call 23; refine (hpD _).mono ?_; rintro e w' ⟨rfl, rfl⟩)
    clear hpD m0 m5 hd HPv HPe HEv HOk
    obtain ⟨sq, HSq⟩ := hex (pk a.E.seq 1000000)
    obtain ⟨kk, HKk⟩ := hex (65 + pk a.E.kind 26)
    obtain ⟨vl, HVl⟩ := hex (pk a.E.val 2199023255553 - 1099511627776)
    have hwk : IntKind.i64.wrap (65 + pk a.E.kind 26) = kk := by rw [IntKind.wrap_i64, HKk.out]; omega
    have hwv : IntKind.i64.wrap (pk a.E.val 2199023255553 - 1099511627776) = vl := by rw [IntKind.wrap_i64, HVl.out]; omega
    rw [← HSq.out] at hpS
    have HA2d : Hid (Blk w2.drew ab 39 a.cells) := HA2.out.below ((Below.refl _ w2).drew) HA2.out.lt
    go_cut [5] (fun p wx => p = .pointer (some ⟨w2.heap.size, 0, none⟩) ∧ wx = (w2.alloc (.cells #[.int .i64 0, .int .i64 sq, .int .i64 ts, .int .i64 kk, .int .i64 vl] 37)).drew)
    case first =>
      refine upTo_region (fun u : World => u.cell? ⟨ab, 4, none⟩ = some (.int .i64 a.E.seq) ∧ u.cell? ⟨ab, 6, none⟩ = some (.int .i64 a.E.kind) ∧ u.cell? ⟨ab, 7, none⟩ = some (.int .i64 a.E.val)) 18 18 rfl (by kernel_rfl) ?_
      have hS0 : (fun u : World => u.cell? ⟨ab, 4, none⟩ = some (.int .i64 a.E.seq) ∧ u.cell? ⟨ab, 6, none⟩ = some (.int .i64 a.E.kind) ∧ u.cell? ⟨ab, 7, none⟩ = some (.int .i64 a.E.val)) w2.drew := ⟨(HA2d.out).cell 4, (HA2d.out).cell 6, (HA2d.out).cell 7⟩
      refine upTo_take2 (i := 0) (v := ?v49_0) rfl (by kernel_rfl) (by kernel_rfl) (by kernel_rfl) rfl (fun _ _ _ h => h) (by rfl) hS0 ?hy49_0 ?rest49_0
      case hy49_0 => (intro u hu; (try dsimp only at hu); go_simp; first | done | with_reducible rfl)
      (try simp only [Act.put, List.setIfInBounds_toArray, List.set_cons_zero, List.set_cons_succ, List.getElem_toArray, List.getElem_cons_succ, List.getElem_cons_zero])
      refine upTo_take2 (i := 1) (v := ?v49_1) rfl (by kernel_rfl) (by kernel_rfl) (by kernel_rfl) rfl (fun _ _ _ h => h) (by rfl) hS0 ?hy49_1 ?rest49_1
      case hy49_1 => (intro u hu; (try dsimp only at hu); go_simp; first | done | with_reducible rfl)
      (try simp only [Act.put, List.setIfInBounds_toArray, List.set_cons_zero, List.set_cons_succ, List.getElem_toArray, List.getElem_cons_succ, List.getElem_cons_zero])
      refine upTo_take2 (i := 2) (v := ?v49_2) rfl (by kernel_rfl) (by kernel_rfl) (by kernel_rfl) rfl (fun _ _ _ h => h) (by rfl) hS0 ?hy49_2 ?rest49_2
      case hy49_2 => (intro u hu; (try dsimp only at hu); go_simp; first | done | with_reducible rfl)
      (try simp only [Act.put, List.setIfInBounds_toArray, List.set_cons_zero, List.set_cons_succ, List.getElem_toArray, List.getElem_cons_succ, List.getElem_cons_zero])
      refine upTo_take2 (i := 4) (v := ?v49_4) rfl (by kernel_rfl) (by kernel_rfl) (by kernel_rfl) rfl (fun _ _ _ h => h) (by rfl) hS0 ?hy49_4 ?rest49_4
      case hy49_4 => (intro u hu; (try dsimp only at hu); go_simp; first | done | with_reducible rfl)
      (try simp only [Act.put, List.setIfInBounds_toArray, List.set_cons_zero, List.set_cons_succ, List.getElem_toArray, List.getElem_cons_succ, List.getElem_cons_zero])
      refine upTo_take2 (i := 5) (v := ?v49_5) rfl (by kernel_rfl) (by kernel_rfl) (by kernel_rfl) rfl (fun _ _ _ h => h) (by rfl) hS0 ?hy49_5 ?rest49_5
      case hy49_5 => (intro u hu; (try dsimp only at hu); go_simp; first | done | with_reducible rfl)
      (try simp only [Act.put, List.setIfInBounds_toArray, List.set_cons_zero, List.set_cons_succ, List.getElem_toArray, List.getElem_cons_succ, List.getElem_cons_zero])
      refine upTo_take2 (i := 6) (v := ?v49_6) rfl (by kernel_rfl) (by kernel_rfl) (by kernel_rfl) rfl (fun _ _ _ h => h) (by rfl) hS0 ?hy49_6 ?rest49_6
      case hy49_6 => (intro u hu; (try dsimp only at hu); go_simp; first | done | with_reducible rfl)
      (try simp only [Act.put, List.setIfInBounds_toArray, List.set_cons_zero, List.set_cons_succ, List.getElem_toArray, List.getElem_cons_succ, List.getElem_cons_zero])
      refine upTo_take2 (i := 7) (v := ?v49_7) rfl (by kernel_rfl) (by kernel_rfl) (by kernel_rfl) rfl (fun _ _ _ h => h) (by rfl) hS0 ?hy49_7 ?rest49_7
      case hy49_7 => (intro u hu; (try dsimp only at hu); go_simp; first | done | with_reducible rfl)
      (try simp only [Act.put, List.setIfInBounds_toArray, List.set_cons_zero, List.set_cons_succ, List.getElem_toArray, List.getElem_cons_succ, List.getElem_cons_zero])
      refine upTo_take2 (i := 10) (v := ?v49_10) rfl (by kernel_rfl) (by kernel_rfl) (by kernel_rfl) rfl (fun _ _ _ h => h) (by rfl) hS0 ?hy49_10 ?rest49_10
      case hy49_10 => (intro u hu; (try dsimp only at hu); go_simp; first | done | with_reducible rfl)
      (try simp only [Act.put, List.setIfInBounds_toArray, List.set_cons_zero, List.set_cons_succ, List.getElem_toArray, List.getElem_cons_succ, List.getElem_cons_zero])
      refine upTo_take2 (i := 11) (v := ?v49_11) rfl (by kernel_rfl) (by kernel_rfl) (by kernel_rfl) rfl (fun _ _ _ h => h) (by rfl) hS0 ?hy49_11 ?rest49_11
      case hy49_11 => (intro u hu; (try dsimp only at hu); go_simp; first | done | with_reducible rfl)
      (try simp only [Act.put, List.setIfInBounds_toArray, List.set_cons_zero, List.set_cons_succ, List.getElem_toArray, List.getElem_cons_succ, List.getElem_cons_zero])
      refine upTo_take2 (i := 12) (v := ?v49_12) rfl (by kernel_rfl) (by kernel_rfl) (by kernel_rfl) rfl (fun _ _ _ h => h) (by rfl) hS0 ?hy49_12 ?rest49_12
      case hy49_12 => (intro u hu; (try dsimp only at hu); go_simp; first | done | with_reducible rfl)
      (try simp only [Act.put, List.setIfInBounds_toArray, List.set_cons_zero, List.set_cons_succ, List.getElem_toArray, List.getElem_cons_succ, List.getElem_cons_zero])
      refine upTo_two (i := 3) (j := 16) (by kernel_rfl) rfl rfl (fun K hK => ?_) (fun K hK => ?_)
      · skip
        go_simp
        refine (hpS _).mono ?_
        rintro e w' ⟨rfl, rfl⟩
        refine hK.out _ _ (fun _ => ⟨(HA2d.out).cell 4, (HA2d.out).cell 6, (HA2d.out).cell 7⟩) ?_
        clear hK K
        (try simp only [Act.put, List.setIfInBounds_toArray, List.set_cons_zero, List.set_cons_succ, List.getElem_toArray, List.getElem_cons_succ, List.getElem_cons_zero])
        refine upTo_two (i := 8) (j := 16) (by kernel_rfl) rfl rfl (fun K hK => ?_) (fun K hK => ?_)
        · skip
          go_simp
          refine (hpK _).mono ?_
          rintro e w' ⟨rfl, rfl⟩
          refine hK.out _ _ (fun _ => ⟨(HA2d.out).cell 4, (HA2d.out).cell 6, (HA2d.out).cell 7⟩) ?_
          clear hK K
          (try simp only [Act.put, List.setIfInBounds_toArray, List.set_cons_zero, List.set_cons_succ, List.getElem_toArray, List.getElem_cons_succ, List.getElem_cons_zero])
          refine upTo_take2 (i := 9) (v := ?v50_9) rfl (by kernel_rfl) (by kernel_rfl) (by kernel_rfl) rfl (fun _ _ _ h => h) (by rfl) hS0 ?hy50_9 ?rest50_9
          case hy50_9 => (intro u hu; (try dsimp only at hu); go_simp; first | done | with_reducible rfl)
          (try simp only [Act.put, List.setIfInBounds_toArray, List.set_cons_zero, List.set_cons_succ, List.getElem_toArray, List.getElem_cons_succ, List.getElem_cons_zero])
          refine upTo_two (i := 13) (j := 16) (by kernel_rfl) rfl rfl (fun K hK => ?_) (fun K hK => ?_)
          · skip
            go_simp
            refine (hpV _).mono ?_
            rintro e w' ⟨rfl, rfl⟩
            refine hK.out _ _ (fun _ => ⟨(HA2d.out).cell 4, (HA2d.out).cell 6, (HA2d.out).cell 7⟩) ?_
            clear hK K
            (try simp only [Act.put, List.setIfInBounds_toArray, List.set_cons_zero, List.set_cons_succ, List.getElem_toArray, List.getElem_cons_succ, List.getElem_cons_zero])
            refine upTo_take2 (i := 14) (v := ?v51_14) rfl (by kernel_rfl) (by kernel_rfl) (by kernel_rfl) rfl (fun _ _ _ h => h) (by rfl) hS0 ?hy51_14 ?rest51_14
            case hy51_14 => (intro u hu; (try dsimp only at hu); go_simp; first | done | with_reducible rfl)
            (try simp only [Act.put, List.setIfInBounds_toArray, List.set_cons_zero, List.set_cons_succ, List.getElem_toArray, List.getElem_cons_succ, List.getElem_cons_zero])
            refine upTo_take2 (i := 15) (v := ?v51_15) rfl (by kernel_rfl) (by kernel_rfl) (by kernel_rfl) rfl (fun _ _ _ h => h) (by rfl) hS0 ?hy51_15 ?rest51_15
            case hy51_15 => (intro u hu; (try dsimp only at hu); go_simp; first | done | with_reducible rfl)
            (try simp only [Act.put, List.setIfInBounds_toArray, List.set_cons_zero, List.set_cons_succ, List.getElem_toArray, List.getElem_cons_succ, List.getElem_cons_zero])
            refine upTo_one (i := 16) (by kernel_rfl) rfl (fun K hK => ?_)
            go_simp
            refine hK.out _ _ (fun _ => ⟨((HA2d.out.alloc _)).cell 4, ((HA2d.out.alloc _)).cell 6, ((HA2d.out.alloc _)).cell 7⟩) ?_
            clear hK K hS0
            (try simp only [Act.put, List.setIfInBounds_toArray, List.set_cons_zero, List.set_cons_succ, List.getElem_toArray, List.getElem_cons_succ, List.getElem_cons_zero])
            have hS0 : (fun u : World => u.cell? ⟨ab, 4, none⟩ = some (.int .i64 a.E.seq) ∧ u.cell? ⟨ab, 6, none⟩ = some (.int .i64 a.E.kind) ∧ u.cell? ⟨ab, 7, none⟩ = some (.int .i64 a.E.val)) (w2.drew.alloc (.cells #[.int .i64 0, .int .i64 0, .int .i64 0, .int .i64 0, .int .i64 0] 37)) := ⟨((HA2d.out.alloc _)).cell 4, ((HA2d.out.alloc _)).cell 6, ((HA2d.out.alloc _)).cell 7⟩
            refine upTo_one (i := 17) (by kernel_rfl) rfl (fun K hK => ?_)
            go_simp
            refine hK.out _ _ (fun _ => ?_) ?_
            case refine_1 => exact ⟨((HA2d.out.alloc _)).cell 4, ((HA2d.out.alloc _)).cell 6, ((HA2d.out.alloc _)).cell 7⟩
            clear hK K
            (try simp only [Act.put, List.setIfInBounds_toArray, List.set_cons_zero, List.set_cons_succ, List.getElem_toArray, List.getElem_cons_succ, List.getElem_cons_zero])
            refine upTo_done (by kernel_rfl) ?_
            go_wp2
            go_meet
            case rel => exact ⟨rfl, rfl⟩
          · skip
            go_simp
            refine hK.out _ _ (fun _ => ⟨((HA2d.out.alloc _)).cell 4, ((HA2d.out.alloc _)).cell 6, ((HA2d.out.alloc _)).cell 7⟩) ?_
            clear hK K hS0
            (try simp only [Act.put, List.setIfInBounds_toArray, List.set_cons_zero, List.set_cons_succ, List.getElem_toArray, List.getElem_cons_succ, List.getElem_cons_zero])
            have hS0 : (fun u : World => u.cell? ⟨ab, 4, none⟩ = some (.int .i64 a.E.seq) ∧ u.cell? ⟨ab, 6, none⟩ = some (.int .i64 a.E.kind) ∧ u.cell? ⟨ab, 7, none⟩ = some (.int .i64 a.E.val)) (w2.drew.alloc (.cells #[.int .i64 0, .int .i64 0, .int .i64 0, .int .i64 0, .int .i64 0] 37)) := ⟨((HA2d.out.alloc _)).cell 4, ((HA2d.out.alloc _)).cell 6, ((HA2d.out.alloc _)).cell 7⟩
            refine upTo_one (i := 13) (by kernel_rfl) rfl (fun K hK => ?_)
            go_simp
            refine (hpV _).mono ?_
            rintro e w' ⟨rfl, rfl⟩
            refine hK.out _ _ (fun _ => ⟨((HA2d.out.alloc _)).cell 4, ((HA2d.out.alloc _)).cell 6, ((HA2d.out.alloc _)).cell 7⟩) ?_
            clear hK K
            (try simp only [Act.put, List.setIfInBounds_toArray, List.set_cons_zero, List.set_cons_succ, List.getElem_toArray, List.getElem_cons_succ, List.getElem_cons_zero])
            refine upTo_take2 (i := 14) (v := ?v52_14) rfl (by kernel_rfl) (by kernel_rfl) (by kernel_rfl) rfl (fun _ _ _ h => h) (by rfl) hS0 ?hy52_14 ?rest52_14
            case hy52_14 => (intro u hu; (try dsimp only at hu); go_simp; first | done | with_reducible rfl)
            (try simp only [Act.put, List.setIfInBounds_toArray, List.set_cons_zero, List.set_cons_succ, List.getElem_toArray, List.getElem_cons_succ, List.getElem_cons_zero])
            refine upTo_take2 (i := 15) (v := ?v52_15) rfl (by kernel_rfl) (by kernel_rfl) (by kernel_rfl) rfl (fun _ _ _ h => h) (by rfl) hS0 ?hy52_15 ?rest52_15
            case hy52_15 => (intro u hu; (try dsimp only at hu); go_simp; first | done | with_reducible rfl)
            (try simp only [Act.put, List.setIfInBounds_toArray, List.set_cons_zero, List.set_cons_succ, List.getElem_toArray, List.getElem_cons_succ, List.getElem_cons_zero])
            refine upTo_one (i := 17) (by kernel_rfl) rfl (fun K hK => ?_)
            go_simp
            refine hK.out _ _ (fun _ => ?_) ?_
            case refine_1 => exact ⟨((HA2d.out.alloc _)).cell 4, ((HA2d.out.alloc _)).cell 6, ((HA2d.out.alloc _)).cell 7⟩
            clear hK K
            (try simp only [Act.put, List.setIfInBounds_toArray, List.set_cons_zero, List.set_cons_succ, List.getElem_toArray, List.getElem_cons_succ, List.getElem_cons_zero])
            refine upTo_done (by kernel_rfl) ?_
            go_wp2
            go_meet
            case rel => exact ⟨rfl, rfl⟩
        · skip
          go_simp
          refine hK.out _ _ (fun _ => ⟨((HA2d.out.alloc _)).cell 4, ((HA2d.out.alloc _)).cell 6, ((HA2d.out.alloc _)).cell 7⟩) ?_
          clear hK K hS0
          (try simp only [Act.put, List.setIfInBounds_toArray, List.set_cons_zero, List.set_cons_succ, List.getElem_toArray, List.getElem_cons_succ, List.getElem_cons_zero])
          have hS0 : (fun u : World => u.cell? ⟨ab, 4, none⟩ = some (.int .i64 a.E.seq) ∧ u.cell? ⟨ab, 6, none⟩ = some (.int .i64 a.E.kind) ∧ u.cell? ⟨ab, 7, none⟩ = some (.int .i64 a.E.val)) (w2.drew.alloc (.cells #[.int .i64 0, .int .i64 0, .int .i64 0, .int .i64 0, .int .i64 0] 37)) := ⟨((HA2d.out.alloc _)).cell 4, ((HA2d.out.alloc _)).cell 6, ((HA2d.out.alloc _)).cell 7⟩
          refine upTo_one (i := 8) (by kernel_rfl) rfl (fun K hK => ?_)
          go_simp
          refine (hpK _).mono ?_
          rintro e w' ⟨rfl, rfl⟩
          refine hK.out _ _ (fun _ => ⟨((HA2d.out.alloc _)).cell 4, ((HA2d.out.alloc _)).cell 6, ((HA2d.out.alloc _)).cell 7⟩) ?_
          clear hK K
          (try simp only [Act.put, List.setIfInBounds_toArray, List.set_cons_zero, List.set_cons_succ, List.getElem_toArray, List.getElem_cons_succ, List.getElem_cons_zero])
          refine upTo_take2 (i := 9) (v := ?v53_9) rfl (by kernel_rfl) (by kernel_rfl) (by kernel_rfl) rfl (fun _ _ _ h => h) (by rfl) hS0 ?hy53_9 ?rest53_9
          case hy53_9 => (intro u hu; (try dsimp only at hu); go_simp; first | done | with_reducible rfl)
          (try simp only [Act.put, List.setIfInBounds_toArray, List.set_cons_zero, List.set_cons_succ, List.getElem_toArray, List.getElem_cons_succ, List.getElem_cons_zero])
          refine upTo_one (i := 13) (by kernel_rfl) rfl (fun K hK => ?_)
          go_simp
          refine (hpV _).mono ?_
          rintro e w' ⟨rfl, rfl⟩
          refine hK.out _ _ (fun _ => ⟨((HA2d.out.alloc _)).cell 4, ((HA2d.out.alloc _)).cell 6, ((HA2d.out.alloc _)).cell 7⟩) ?_
          clear hK K
          (try simp only [Act.put, List.setIfInBounds_toArray, List.set_cons_zero, List.set_cons_succ, List.getElem_toArray, List.getElem_cons_succ, List.getElem_cons_zero])
          refine upTo_take2 (i := 14) (v := ?v54_14) rfl (by kernel_rfl) (by kernel_rfl) (by kernel_rfl) rfl (fun _ _ _ h => h) (by rfl) hS0 ?hy54_14 ?rest54_14
          case hy54_14 => (intro u hu; (try dsimp only at hu); go_simp; first | done | with_reducible rfl)
          (try simp only [Act.put, List.setIfInBounds_toArray, List.set_cons_zero, List.set_cons_succ, List.getElem_toArray, List.getElem_cons_succ, List.getElem_cons_zero])
          refine upTo_take2 (i := 15) (v := ?v54_15) rfl (by kernel_rfl) (by kernel_rfl) (by kernel_rfl) rfl (fun _ _ _ h => h) (by rfl) hS0 ?hy54_15 ?rest54_15
          case hy54_15 => (intro u hu; (try dsimp only at hu); go_simp; first | done | with_reducible rfl)
          (try simp only [Act.put, List.setIfInBounds_toArray, List.set_cons_zero, List.set_cons_succ, List.getElem_toArray, List.getElem_cons_succ, List.getElem_cons_zero])
          refine upTo_one (i := 17) (by kernel_rfl) rfl (fun K hK => ?_)
          go_simp
          refine hK.out _ _ (fun _ => ?_) ?_
          case refine_1 => exact ⟨((HA2d.out.alloc _)).cell 4, ((HA2d.out.alloc _)).cell 6, ((HA2d.out.alloc _)).cell 7⟩
          clear hK K
          (try simp only [Act.put, List.setIfInBounds_toArray, List.set_cons_zero, List.set_cons_succ, List.getElem_toArray, List.getElem_cons_succ, List.getElem_cons_zero])
          refine upTo_done (by kernel_rfl) ?_
          go_wp2
          go_meet
          case rel => exact ⟨rfl, rfl⟩
      · skip
        go_simp
        refine hK.out _ _ (fun _ => ⟨((HA2d.out.alloc _)).cell 4, ((HA2d.out.alloc _)).cell 6, ((HA2d.out.alloc _)).cell 7⟩) ?_
        clear hK K hS0
        (try simp only [Act.put, List.setIfInBounds_toArray, List.set_cons_zero, List.set_cons_succ, List.getElem_toArray, List.getElem_cons_succ, List.getElem_cons_zero])
        have hS0 : (fun u : World => u.cell? ⟨ab, 4, none⟩ = some (.int .i64 a.E.seq) ∧ u.cell? ⟨ab, 6, none⟩ = some (.int .i64 a.E.kind) ∧ u.cell? ⟨ab, 7, none⟩ = some (.int .i64 a.E.val)) (w2.drew.alloc (.cells #[.int .i64 0, .int .i64 0, .int .i64 0, .int .i64 0, .int .i64 0] 37)) := ⟨((HA2d.out.alloc _)).cell 4, ((HA2d.out.alloc _)).cell 6, ((HA2d.out.alloc _)).cell 7⟩
        refine upTo_one (i := 3) (by kernel_rfl) rfl (fun K hK => ?_)
        go_simp
        refine (hpS _).mono ?_
        rintro e w' ⟨rfl, rfl⟩
        refine hK.out _ _ (fun _ => ⟨((HA2d.out.alloc _)).cell 4, ((HA2d.out.alloc _)).cell 6, ((HA2d.out.alloc _)).cell 7⟩) ?_
        clear hK K
        (try simp only [Act.put, List.setIfInBounds_toArray, List.set_cons_zero, List.set_cons_succ, List.getElem_toArray, List.getElem_cons_succ, List.getElem_cons_zero])
        refine upTo_one (i := 8) (by kernel_rfl) rfl (fun K hK => ?_)
        go_simp
        refine (hpK _).mono ?_
        rintro e w' ⟨rfl, rfl⟩
        refine hK.out _ _ (fun _ => ⟨((HA2d.out.alloc _)).cell 4, ((HA2d.out.alloc _)).cell 6, ((HA2d.out.alloc _)).cell 7⟩) ?_
        clear hK K
        (try simp only [Act.put, List.setIfInBounds_toArray, List.set_cons_zero, List.set_cons_succ, List.getElem_toArray, List.getElem_cons_succ, List.getElem_cons_zero])
        refine upTo_take2 (i := 9) (v := ?v55_9) rfl (by kernel_rfl) (by kernel_rfl) (by kernel_rfl) rfl (fun _ _ _ h => h) (by rfl) hS0 ?hy55_9 ?rest55_9
        case hy55_9 => (intro u hu; (try dsimp only at hu); go_simp; first | done | with_reducible rfl)
        (try simp only [Act.put, List.setIfInBounds_toArray, List.set_cons_zero, List.set_cons_succ, List.getElem_toArray, List.getElem_cons_succ, List.getElem_cons_zero])
        refine upTo_one (i := 13) (by kernel_rfl) rfl (fun K hK => ?_)
        go_simp
        refine (hpV _).mono ?_
        rintro e w' ⟨rfl, rfl⟩
        refine hK.out _ _ (fun _ => ⟨((HA2d.out.alloc _)).cell 4, ((HA2d.out.alloc _)).cell 6, ((HA2d.out.alloc _)).cell 7⟩) ?_
        clear hK K
        (try simp only [Act.put, List.setIfInBounds_toArray, List.set_cons_zero, List.set_cons_succ, List.getElem_toArray, List.getElem_cons_succ, List.getElem_cons_zero])
        refine upTo_take2 (i := 14) (v := ?v56_14) rfl (by kernel_rfl) (by kernel_rfl) (by kernel_rfl) rfl (fun _ _ _ h => h) (by rfl) hS0 ?hy56_14 ?rest56_14
        case hy56_14 => (intro u hu; (try dsimp only at hu); go_simp; first | done | with_reducible rfl)
        (try simp only [Act.put, List.setIfInBounds_toArray, List.set_cons_zero, List.set_cons_succ, List.getElem_toArray, List.getElem_cons_succ, List.getElem_cons_zero])
        refine upTo_take2 (i := 15) (v := ?v56_15) rfl (by kernel_rfl) (by kernel_rfl) (by kernel_rfl) rfl (fun _ _ _ h => h) (by rfl) hS0 ?hy56_15 ?rest56_15
        case hy56_15 => (intro u hu; (try dsimp only at hu); go_simp; first | done | with_reducible rfl)
        (try simp only [Act.put, List.setIfInBounds_toArray, List.set_cons_zero, List.set_cons_succ, List.getElem_toArray, List.getElem_cons_succ, List.getElem_cons_zero])
        refine upTo_one (i := 17) (by kernel_rfl) rfl (fun K hK => ?_)
        go_simp
        refine hK.out _ _ (fun _ => ?_) ?_
        case refine_1 => exact ⟨((HA2d.out.alloc _)).cell 4, ((HA2d.out.alloc _)).cell 6, ((HA2d.out.alloc _)).cell 7⟩
        clear hK K
        (try simp only [Act.put, List.setIfInBounds_toArray, List.set_cons_zero, List.set_cons_succ, List.getElem_toArray, List.getElem_cons_succ, List.getElem_cons_zero])
        refine upTo_done (by kernel_rfl) ?_
        go_wp2
        go_meet
        case rel => exact ⟨rfl, rfl⟩
    case rest =>
      obtain ⟨rfl, hwc⟩ := hcut
      obtain ⟨w4, HW4⟩ := hex wc
      rw [← HW4.out]
      obtain ⟨eb, HEb⟩ := hex w2.heap.size
      rw [← HEb.out]
      have HE4 : Hid (Blk w4 eb 37 [.int .i64 0, .int .i64 sq, .int .i64 ts, .int .i64 kk, .int .i64 vl]) := by show Blk _ _ _ _; rw [HW4.out, hwc, HEb.out]; exact (blk_alloc w2 [.int .i64 0, .int .i64 sq, .int .i64 ts, .int .i64 kk, .int .i64 vl] 37)
      have HR4 : Hid (Blk w4 rb 37 [.int .i64 0, .int .i64 0, .int .i64 0, .int .i64 0, .int .i64 0]) := by show Blk _ _ _ _; rw [HW4.out, hwc]; exact HR2.out.alloc _
      have HB4 : Hid (Below w.heap.size w w4) := by show Below _ _ _; rw [HW4.out, hwc]; exact (HB2.out.alloc HB2.out.size _).drew
      have HNe : Hid (eb ≠ rb) := by show _ ≠ _; have := HR2.out.lt; have := HEb.out; omega
      clear HW4 hwc HEb HA2d hpS hpK hpV hwk hwv
      have hkr2 : 65 ≤ kk ∧ kk ≤ 90 := by rw [HKk.out]; omega
      have hvr2 : -1099511627776 ≤ vl ∧ vl ≤ 1099511627776 := by rw [HVl.out]; omega
      have hsr2 : 0 ≤ sq ∧ sq < 1000000 := by rw [HSq.out]; omega
      have HEE : Hid (spEv a = ⟨0, sq, ts, kk, vl⟩) := by show _ = _; rw [HE, HSq.out, HKk.out, HVl.out]
      clear HE HSq HKk HVl hsr hkr hvr htr
      have hwu : IntKind.u8.wrap kk = kk := by rw [IntKind.wrap_u8]; omega
      obtain ⟨kb, HKb⟩ : ∃ kb : UInt8, Hid ((kb.toNat : Int) = kk ∧ kb = UInt8.ofNat kk.toNat) := ⟨UInt8.ofNat kk.toNat, by rw [UInt8.toNat_ofNat']; omega, rfl⟩
      obtain ⟨K1, HK1⟩ := hex (⟨#[kb]⟩ : ByteArray)
      have hk1 : K1.size ≤ 1 := by rw [HK1.out]; exact Nat.le_refl _
      have hiS := hito sq (by omega) (by omega)
      have hiT := hito ts (by have := HTr.out; omega) (by have := HTr.out; omega)
      have hiV := hito vl (by omega) (by omega)
      obtain ⟨Sq, HSq⟩ := hex (⟨(Lib.itoa sq).toArray⟩ : ByteArray)
      obtain ⟨St, HSt⟩ := hex (⟨(Lib.itoa ts).toArray⟩ : ByteArray)
      obtain ⟨Sv, HSv⟩ := hex (⟨(Lib.itoa vl).toArray⟩ : ByteArray)
      have hl1 : Sq.size ≤ 14 := by rw [HSq.out]; show (Lib.itoa sq).toArray.size ≤ 14; rw [List.size_toArray]; exact (itoa_len (n := sq) (k := 12) (by omega)).1
      have hl2 : St.size ≤ 14 := by rw [HSt.out]; show (Lib.itoa ts).toArray.size ≤ 14; rw [List.size_toArray]; exact (itoa_len (n := ts) (k := 12) (by have := HTr.out; omega)).1
      have hl3 : Sv.size ≤ 14 := by rw [HSv.out]; show (Lib.itoa vl).toArray.size ≤ 14; rw [List.size_toArray]; exact (itoa_len (n := vl) (k := 12) (by omega)).1
      rw [← HSq.out] at hiS
      rw [← HSt.out] at hiT
      rw [← HSv.out] at hiV
      have c1 : ¬ 9223372036854775807 < 2 + Sq.size := by omega
      have c2 : ¬ 9223372036854775807 < 2 + Sq.size + 1 := by omega
      have c3 : ¬ 9223372036854775807 < 2 + Sq.size + 1 + St.size := by omega
      have c4 : ¬ 9223372036854775807 < 2 + Sq.size + 1 + St.size + 1 := by omega
      have c5 : ¬ 9223372036854775807 < 2 + Sq.size + 1 + St.size + 1 + K1.size := by omega
      have c6 : ¬ 9223372036854775807 < 2 + Sq.size + 1 + St.size + 1 + K1.size + 1 := by omega
      have c7 : ¬ 9223372036854775807 < 2 + Sq.size + 1 + St.size + 1 + K1.size + 1 + Sv.size := by omega
      have c8 : ¬ 9223372036854775807 < 2 + Sq.size + 1 + St.size + 1 + K1.size + 1 + Sv.size + 1 := by omega
      have HF : Hid ((⟨(spLine a ++ [10]).toArray⟩ : ByteArray) = (⟨#[69, 32]⟩ ++ Sq ++ ⟨#[32]⟩ ++ St ++ ⟨#[32]⟩ ++ K1 ++ ⟨#[32]⟩ ++ Sv ++ ⟨#[10]⟩ : ByteArray)) := by
        show _ = _
        rw [HL, HSq.out, HSt.out, HSv.out, HK1.out, HEE.out, HKb.out.2]
        exact ByteArray.ext (by simp [evLine])
      clear HSq HSt HSv hito
      have Hw4 : Hid (Below w.heap.size w w4) := HB4.out
      obtain ⟨FU, HFU⟩ := hex (⟨#[69, 32]⟩ ++ Sq ++ ⟨#[32]⟩ ++ St ++ ⟨#[32]⟩ ++ K1 ++ ⟨#[32]⟩ ++ Sv ++ ⟨#[10]⟩ : ByteArray)
      go_upto_region 5 with fail
      go_cut [2] (fun q wx => q = .string (⟨#[69, 32]⟩ ++ Sq ++ ⟨#[32]⟩ ++ St ++ ⟨#[32]⟩ ++ K1 ++ ⟨#[32]⟩ ++ Sv ++ ⟨#[10]⟩ : ByteArray) ∧ Blk wx rb 37 [.int .i64 0, .int .i64 sq, .int .i64 ts, .int .i64 kk, .int .i64 vl] ∧ Below w.heap.size w wx)
      case first =>
        have HEw4 : Hid (Blk w4.drew eb 37 [.int .i64 0, .int .i64 sq, .int .i64 ts, .int .i64 kk, .int .i64 vl]) := HE4.out
        have HRw4 : Hid (Blk w4.drew rb 37 [.int .i64 0, .int .i64 0, .int .i64 0, .int .i64 0, .int .i64 0]) := HR4.out
        have HBw4 : Hid (Below w.heap.size w w4.drew) := HB4.out.drew
        refine upTo_region (fun u : World => u.cell? ⟨eb, 0, none⟩ = some (.int .i64 0) ∧ u.cell? ⟨eb, 1, none⟩ = some (.int .i64 sq) ∧ u.cell? ⟨eb, 2, none⟩ = some (.int .i64 ts) ∧ u.cell? ⟨eb, 3, none⟩ = some (.int .i64 kk) ∧ u.cell? ⟨eb, 4, none⟩ = some (.int .i64 vl)) 25 25 rfl (by kernel_rfl) ?_
        clear HE4 HR4 HB4 Hw4 HFU
        generalize w4.drew = w4 at *
        have hS0 : (fun u : World => u.cell? ⟨eb, 0, none⟩ = some (.int .i64 0) ∧ u.cell? ⟨eb, 1, none⟩ = some (.int .i64 sq) ∧ u.cell? ⟨eb, 2, none⟩ = some (.int .i64 ts) ∧ u.cell? ⟨eb, 3, none⟩ = some (.int .i64 kk) ∧ u.cell? ⟨eb, 4, none⟩ = some (.int .i64 vl)) w4 := ⟨(HEw4.out).cell 0, (HEw4.out).cell 1, (HEw4.out).cell 2, (HEw4.out).cell 3, (HEw4.out).cell 4⟩
        refine upTo_take2 (i := 0) (v := ?v57_0) rfl (by kernel_rfl) (by kernel_rfl) (by kernel_rfl) rfl (fun _ _ _ h => h) (by rfl) hS0 ?hy57_0 ?rest57_0
        case hy57_0 => (intro u hu; (try dsimp only at hu); go_simp; first | done | with_reducible rfl)
        (try simp only [Act.put, List.setIfInBounds_toArray, List.set_cons_zero, List.set_cons_succ, List.getElem_toArray, List.getElem_cons_succ, List.getElem_cons_zero])
        refine upTo_take2 (i := 1) (v := ?v57_1) rfl (by kernel_rfl) (by kernel_rfl) (by kernel_rfl) rfl (fun _ _ _ h => h) (by rfl) hS0 ?hy57_1 ?rest57_1
        case hy57_1 => (intro u hu; (try dsimp only at hu); go_simp; first | done | with_reducible rfl)
        (try simp only [Act.put, List.setIfInBounds_toArray, List.set_cons_zero, List.set_cons_succ, List.getElem_toArray, List.getElem_cons_succ, List.getElem_cons_zero])
        refine upTo_take2 (i := 5) (v := ?v57_5) rfl (by kernel_rfl) (by kernel_rfl) (by kernel_rfl) rfl (fun _ _ _ h => h) (by rfl) hS0 ?hy57_5 ?rest57_5
        case hy57_5 => (intro u hu; (try dsimp only at hu); go_simp; first | done | with_reducible rfl)
        (try simp only [Act.put, List.setIfInBounds_toArray, List.set_cons_zero, List.set_cons_succ, List.getElem_toArray, List.getElem_cons_succ, List.getElem_cons_zero])
        refine upTo_take2 (i := 6) (v := ?v57_6) rfl (by kernel_rfl) (by kernel_rfl) (by kernel_rfl) rfl (fun _ _ _ h => h) (by rfl) hS0 ?hy57_6 ?rest57_6
        case hy57_6 => (intro u hu; (try dsimp only at hu); go_simp; first | done | with_reducible rfl)
        (try simp only [Act.put, List.setIfInBounds_toArray, List.set_cons_zero, List.set_cons_succ, List.getElem_toArray, List.getElem_cons_succ, List.getElem_cons_zero])
        refine upTo_take2 (i := 10) (v := ?v57_10) rfl (by kernel_rfl) (by kernel_rfl) (by kernel_rfl) rfl (fun _ _ _ h => h) (by rfl) hS0 ?hy57_10 ?rest57_10
        case hy57_10 => (intro u hu; (try dsimp only at hu); go_simp; first | done | with_reducible rfl)
        (try simp only [Act.put, List.setIfInBounds_toArray, List.set_cons_zero, List.set_cons_succ, List.getElem_toArray, List.getElem_cons_succ, List.getElem_cons_zero])
        refine upTo_take2 (i := 11) (v := ?v57_11) rfl (by kernel_rfl) (by kernel_rfl) (by kernel_rfl) rfl (fun _ _ _ h => h) (by rfl) hS0 ?hy57_11 ?rest57_11
        case hy57_11 => (intro u hu; (try dsimp only at hu); go_simp; first | done | with_reducible rfl)
        (try simp only [Act.put, List.setIfInBounds_toArray, List.set_cons_zero, List.set_cons_succ, List.getElem_toArray, List.getElem_cons_succ, List.getElem_cons_zero])
        refine upTo_take2 (i := 12) (v := ?v57_12) rfl (by kernel_rfl) (by kernel_rfl) (by kernel_rfl) rfl (fun _ _ _ h => h) (by rfl) hS0 ?hy57_12 ?rest57_12
        case hy57_12 => (intro u hu; (try dsimp only at hu); go_simp; first | done | with_reducible rfl)
        (try simp only [Act.put, List.setIfInBounds_toArray, List.set_cons_zero, List.set_cons_succ, List.getElem_toArray, List.getElem_cons_succ, List.getElem_cons_zero])
        refine upTo_take2 (i := 17) (v := ?v57_17) rfl (by kernel_rfl) (by kernel_rfl) (by kernel_rfl) rfl (fun _ _ _ h => h) (by rfl) hS0 ?hy57_17 ?rest57_17
        case hy57_17 => (intro u hu; (try dsimp only at hu); go_simp; first | done | with_reducible rfl)
        (try simp only [Act.put, List.setIfInBounds_toArray, List.set_cons_zero, List.set_cons_succ, List.getElem_toArray, List.getElem_cons_succ, List.getElem_cons_zero])
        refine upTo_take2 (i := 18) (v := ?v57_18) rfl (by kernel_rfl) (by kernel_rfl) (by kernel_rfl) rfl (fun _ _ _ h => h) (by rfl) hS0 ?hy57_18 ?rest57_18
        case hy57_18 => (intro u hu; (try dsimp only at hu); go_simp; first | done | with_reducible rfl)
        (try simp only [Act.put, List.setIfInBounds_toArray, List.set_cons_zero, List.set_cons_succ, List.getElem_toArray, List.getElem_cons_succ, List.getElem_cons_zero])
        refine upTo_take2 (i := 22) (v := ?v57_22) rfl (by kernel_rfl) (by kernel_rfl) (by kernel_rfl) rfl (fun _ _ _ h => h) (by rfl) hS0 ?hy57_22 ?rest57_22
        case hy57_22 => (intro u hu; (try dsimp only at hu); go_simp; first | done | with_reducible rfl)
        (try simp only [Act.put, List.setIfInBounds_toArray, List.set_cons_zero, List.set_cons_succ, List.getElem_toArray, List.getElem_cons_succ, List.getElem_cons_zero])
        refine upTo_two (i := 2) (j := 13) (by kernel_rfl) rfl rfl (fun K hK => ?_) (fun K hK => ?_)
        · skip
          go_simp
          refine (hiS _ HBw4.out).mono ?_
          rintro e v1 ⟨rfl, hbv1⟩
          have HBv1 : Hid (Below w.heap.size w v1) := HBw4.out.trans (hbv1.mono HBw4.out.size)
          have HEv1 : Hid (Blk v1 eb 37 [.int .i64 0, .int .i64 sq, .int .i64 ts, .int .i64 kk, .int .i64 vl]) := HEw4.out.below hbv1 HEw4.out.lt
          have HRv1 : Hid (Blk v1 rb 37 [.int .i64 0, .int .i64 0, .int .i64 0, .int .i64 0, .int .i64 0]) := HRw4.out.below hbv1 HRw4.out.lt
          refine hK.out _ _ (fun _ => ⟨(HEv1.out).cell 0, (HEv1.out).cell 1, (HEv1.out).cell 2, (HEv1.out).cell 3, (HEv1.out).cell 4⟩) ?_
          clear hK K hS0
          (try simp only [Act.put, List.setIfInBounds_toArray, List.set_cons_zero, List.set_cons_succ, List.getElem_toArray, List.getElem_cons_succ, List.getElem_cons_zero])
          have hS0 : (fun u : World => u.cell? ⟨eb, 0, none⟩ = some (.int .i64 0) ∧ u.cell? ⟨eb, 1, none⟩ = some (.int .i64 sq) ∧ u.cell? ⟨eb, 2, none⟩ = some (.int .i64 ts) ∧ u.cell? ⟨eb, 3, none⟩ = some (.int .i64 kk) ∧ u.cell? ⟨eb, 4, none⟩ = some (.int .i64 vl)) v1 := ⟨(HEv1.out).cell 0, (HEv1.out).cell 1, (HEv1.out).cell 2, (HEv1.out).cell 3, (HEv1.out).cell 4⟩
          refine upTo_take2 (i := 3) (v := ?v58_3) rfl (by kernel_rfl) (by kernel_rfl) (by kernel_rfl) rfl (fun _ _ _ h => h) (by rfl) hS0 ?hy58_3 ?rest58_3
          case hy58_3 => (intro u hu; (try dsimp only at hu); go_simp; first | done | with_reducible rfl)
          (try simp only [Act.put, List.setIfInBounds_toArray, List.set_cons_zero, List.set_cons_succ, List.getElem_toArray, List.getElem_cons_succ, List.getElem_cons_zero])
          refine upTo_take2 (i := 4) (v := ?v58_4) rfl (by kernel_rfl) (by kernel_rfl) (by kernel_rfl) rfl (fun _ _ _ h => h) (by rfl) hS0 ?hy58_4 ?rest58_4
          case hy58_4 => (intro u hu; (try dsimp only at hu); go_simp; first | done | with_reducible rfl)
          (try simp only [Act.put, List.setIfInBounds_toArray, List.set_cons_zero, List.set_cons_succ, List.getElem_toArray, List.getElem_cons_succ, List.getElem_cons_zero])
          refine upTo_two (i := 7) (j := 13) (by kernel_rfl) rfl rfl (fun K hK => ?_) (fun K hK => ?_)
          · skip
            go_simp
            refine (hiT _ HBv1.out).mono ?_
            rintro e v2 ⟨rfl, hbv2⟩
            have HBv2 : Hid (Below w.heap.size w v2) := HBv1.out.trans (hbv2.mono HBv1.out.size)
            have HEv2 : Hid (Blk v2 eb 37 [.int .i64 0, .int .i64 sq, .int .i64 ts, .int .i64 kk, .int .i64 vl]) := HEv1.out.below hbv2 HEv1.out.lt
            have HRv2 : Hid (Blk v2 rb 37 [.int .i64 0, .int .i64 0, .int .i64 0, .int .i64 0, .int .i64 0]) := HRv1.out.below hbv2 HRv1.out.lt
            refine hK.out _ _ (fun _ => ⟨(HEv2.out).cell 0, (HEv2.out).cell 1, (HEv2.out).cell 2, (HEv2.out).cell 3, (HEv2.out).cell 4⟩) ?_
            clear hK K hS0
            (try simp only [Act.put, List.setIfInBounds_toArray, List.set_cons_zero, List.set_cons_succ, List.getElem_toArray, List.getElem_cons_succ, List.getElem_cons_zero])
            have hS0 : (fun u : World => u.cell? ⟨eb, 0, none⟩ = some (.int .i64 0) ∧ u.cell? ⟨eb, 1, none⟩ = some (.int .i64 sq) ∧ u.cell? ⟨eb, 2, none⟩ = some (.int .i64 ts) ∧ u.cell? ⟨eb, 3, none⟩ = some (.int .i64 kk) ∧ u.cell? ⟨eb, 4, none⟩ = some (.int .i64 vl)) v2 := ⟨(HEv2.out).cell 0, (HEv2.out).cell 1, (HEv2.out).cell 2, (HEv2.out).cell 3, (HEv2.out).cell 4⟩
            refine upTo_take2 (i := 8) (v := ?v59_8) rfl (by kernel_rfl) (by kernel_rfl) (by kernel_rfl) rfl (fun _ _ _ h => h) (by rfl) hS0 ?hy59_8 ?rest59_8
            case hy59_8 => (intro u hu; (try dsimp only at hu); go_simp; first | done | with_reducible rfl)
            (try simp only [Act.put, List.setIfInBounds_toArray, List.set_cons_zero, List.set_cons_succ, List.getElem_toArray, List.getElem_cons_succ, List.getElem_cons_zero])
            refine upTo_take2 (i := 9) (v := ?v59_9) rfl (by kernel_rfl) (by kernel_rfl) (by kernel_rfl) rfl (fun _ _ _ h => h) (by rfl) hS0 ?hy59_9 ?rest59_9
            case hy59_9 => (intro u hu; (try dsimp only at hu); go_simp; first | done | with_reducible rfl)
            (try simp only [Act.put, List.setIfInBounds_toArray, List.set_cons_zero, List.set_cons_succ, List.getElem_toArray, List.getElem_cons_succ, List.getElem_cons_zero])
            refine upTo_two (i := 13) (j := 19) (by kernel_rfl) rfl rfl (fun K hK => ?_) (fun K hK => ?_)
            · skip
              go_simp
              refine hK.out _ _ (fun _ => ⟨((HEv2.out.alloc _)).cell 0, ((HEv2.out.alloc _)).cell 1, ((HEv2.out.alloc _)).cell 2, ((HEv2.out.alloc _)).cell 3, ((HEv2.out.alloc _)).cell 4⟩) ?_
              clear hK K hS0
              (try simp only [Act.put, List.setIfInBounds_toArray, List.set_cons_zero, List.set_cons_succ, List.getElem_toArray, List.getElem_cons_succ, List.getElem_cons_zero])
              obtain ⟨v3, HWv3⟩ := hex (v2.alloc (.cells [.int .u8 kk].toArray 5))
              have hwv3 : v2.alloc (.cells #[.int .u8 kk] 5) = v3 := HWv3.out.symm
              rw [hwv3]
              obtain ⟨cbk, HCbv3⟩ := hex v2.heap.size
              rw [← HCbv3.out]
              have HBv3 : Hid (Below w.heap.size w v3) := by show Below _ _ _; rw [HWv3.out]; exact HBv2.out.alloc HBv2.out.size _
              have HEv3 : Hid (Blk v3 eb 37 [.int .i64 0, .int .i64 sq, .int .i64 ts, .int .i64 kk, .int .i64 vl]) := by show Blk _ _ _ _; rw [HWv3.out]; exact HEv2.out.alloc _
              have HRv3 : Hid (Blk v3 rb 37 [.int .i64 0, .int .i64 0, .int .i64 0, .int .i64 0, .int .i64 0]) := by show Blk _ _ _ _; rw [HWv3.out]; exact HRv2.out.alloc _
              have HCv3 : Hid (Blk v3 cbk 5 [.int .u8 kk]) := by show Blk _ _ _ _; rw [HWv3.out, HCbv3.out]; exact blk_alloc _ _ _
              clear hwv3 HWv3 HCbv3
              have hS0 : (fun u : World => u.cell? ⟨eb, 0, none⟩ = some (.int .i64 0) ∧ u.cell? ⟨eb, 1, none⟩ = some (.int .i64 sq) ∧ u.cell? ⟨eb, 2, none⟩ = some (.int .i64 ts) ∧ u.cell? ⟨eb, 3, none⟩ = some (.int .i64 kk) ∧ u.cell? ⟨eb, 4, none⟩ = some (.int .i64 vl)) v3 := ⟨(HEv3.out).cell 0, (HEv3.out).cell 1, (HEv3.out).cell 2, (HEv3.out).cell 3, (HEv3.out).cell 4⟩
              refine upTo_two (i := 14) (j := 19) (by kernel_rfl) rfl rfl (fun K hK => ?_) (fun K hK => ?_)
              · skip
                have kc := conv_one HCv3.out HKb.out HK1.out
                go_simp
                refine hK.out _ _ (fun _ => ⟨(HEv3.out).cell 0, (HEv3.out).cell 1, (HEv3.out).cell 2, (HEv3.out).cell 3, (HEv3.out).cell 4⟩) ?_
                clear hK K kc
                (try simp only [Act.put, List.setIfInBounds_toArray, List.set_cons_zero, List.set_cons_succ, List.getElem_toArray, List.getElem_cons_succ, List.getElem_cons_zero])
                refine upTo_take2 (i := 15) (v := ?v60_15) rfl (by kernel_rfl) (by kernel_rfl) (by kernel_rfl) rfl (fun _ _ _ h => h) (by rfl) hS0 ?hy60_15 ?rest60_15
                case hy60_15 => (intro u hu; (try dsimp only at hu); go_simp; first | done | with_reducible rfl)
                (try simp only [Act.put, List.setIfInBounds_toArray, List.set_cons_zero, List.set_cons_succ, List.getElem_toArray, List.getElem_cons_succ, List.getElem_cons_zero])
                refine upTo_take2 (i := 16) (v := ?v60_16) rfl (by kernel_rfl) (by kernel_rfl) (by kernel_rfl) rfl (fun _ _ _ h => h) (by rfl) hS0 ?hy60_16 ?rest60_16
                case hy60_16 => (intro u hu; (try dsimp only at hu); go_simp; first | done | with_reducible rfl)
                (try simp only [Act.put, List.setIfInBounds_toArray, List.set_cons_zero, List.set_cons_succ, List.getElem_toArray, List.getElem_cons_succ, List.getElem_cons_zero])
                refine upTo_one (i := 19) (by kernel_rfl) rfl (fun K hK => ?_)
                go_simp
                refine (hiV _ HBv3.out).mono ?_
                rintro e v4 ⟨rfl, hbv4⟩
                have HBv4 : Hid (Below w.heap.size w v4) := HBv3.out.trans (hbv4.mono HBv3.out.size)
                have HEv4 : Hid (Blk v4 eb 37 [.int .i64 0, .int .i64 sq, .int .i64 ts, .int .i64 kk, .int .i64 vl]) := HEv3.out.below hbv4 HEv3.out.lt
                have HRv4 : Hid (Blk v4 rb 37 [.int .i64 0, .int .i64 0, .int .i64 0, .int .i64 0, .int .i64 0]) := HRv3.out.below hbv4 HRv3.out.lt
                refine hK.out _ _ (fun _ => ⟨(HEv4.out).cell 0, (HEv4.out).cell 1, (HEv4.out).cell 2, (HEv4.out).cell 3, (HEv4.out).cell 4⟩) ?_
                clear hK K hS0
                (try simp only [Act.put, List.setIfInBounds_toArray, List.set_cons_zero, List.set_cons_succ, List.getElem_toArray, List.getElem_cons_succ, List.getElem_cons_zero])
                have hS0 : (fun u : World => u.cell? ⟨eb, 0, none⟩ = some (.int .i64 0) ∧ u.cell? ⟨eb, 1, none⟩ = some (.int .i64 sq) ∧ u.cell? ⟨eb, 2, none⟩ = some (.int .i64 ts) ∧ u.cell? ⟨eb, 3, none⟩ = some (.int .i64 kk) ∧ u.cell? ⟨eb, 4, none⟩ = some (.int .i64 vl)) v4 := ⟨(HEv4.out).cell 0, (HEv4.out).cell 1, (HEv4.out).cell 2, (HEv4.out).cell 3, (HEv4.out).cell 4⟩
                refine upTo_take2 (i := 20) (v := ?v61_20) rfl (by kernel_rfl) (by kernel_rfl) (by kernel_rfl) rfl (fun _ _ _ h => h) (by rfl) hS0 ?hy61_20 ?rest61_20
                case hy61_20 => (intro u hu; (try dsimp only at hu); go_simp; first | done | with_reducible rfl)
                (try simp only [Act.put, List.setIfInBounds_toArray, List.set_cons_zero, List.set_cons_succ, List.getElem_toArray, List.getElem_cons_succ, List.getElem_cons_zero])
                refine upTo_take2 (i := 21) (v := ?v61_21) rfl (by kernel_rfl) (by kernel_rfl) (by kernel_rfl) rfl (fun _ _ _ h => h) (by rfl) hS0 ?hy61_21 ?rest61_21
                case hy61_21 => (intro u hu; (try dsimp only at hu); go_simp; first | done | with_reducible rfl)
                (try simp only [Act.put, List.setIfInBounds_toArray, List.set_cons_zero, List.set_cons_succ, List.getElem_toArray, List.getElem_cons_succ, List.getElem_cons_zero])
                refine upTo_one (i := 23) (by kernel_rfl) rfl (fun K hK => ?_)
                go_simp
                refine hK.out _ _ (fun _ => ⟨(HEv4.out).cell 0, (HEv4.out).cell 1, (HEv4.out).cell 2, (HEv4.out).cell 3, (HEv4.out).cell 4⟩) ?_
                clear hK K
                (try simp only [Act.put, List.setIfInBounds_toArray, List.set_cons_zero, List.set_cons_succ, List.getElem_toArray, List.getElem_cons_succ, List.getElem_cons_zero])
                have z0 := HRv4.out.cell 0
                have z1 := HRv4.out.cell 1
                have z2 := HRv4.out.cell 2
                have z3 := HRv4.out.cell 3
                have z4 := HRv4.out.cell 4
                have y0 := HRv4.out.frozen 0
                have y1 := HRv4.out.frozen 1
                have y2 := HRv4.out.frozen 2
                have y3 := HRv4.out.frozen 3
                have y4 := HRv4.out.frozen 4
                simp only [List.getElem?_cons_zero, List.getElem?_cons_succ] at z0 z1 z2 z3 z4
                refine upTo_one (i := 24) (by kernel_rfl) rfl (fun K hK => ?_)
                go_simp
                have HEz := HEv4.out.kept ((((((Kept.refl (fun k => k = rb) v4).setCell (b := rb) (o := 0) (fun _ => rfl) (.int .i64 0)).setCell (b := rb) (o := 1) (fun _ => rfl) (.int .i64 sq)).setCell (b := rb) (o := 2) (fun _ => rfl) (.int .i64 ts)).setCell (b := rb) (o := 3) (fun _ => rfl) (.int .i64 kk)).setCell (b := rb) (o := 4) (fun _ => rfl) (.int .i64 vl)) HNe.out
                have HRz := ((((HRv4.out.set 0 (.int .i64 0)).set 1 (.int .i64 sq)).set 2 (.int .i64 ts)).set 3 (.int .i64 kk)).set 4 (.int .i64 vl)
                have HBz := (((((HBv4.out.setCell (p := ⟨rb, 0, none⟩) HRw.out (.int .i64 0)).setCell (p := ⟨rb, 1, none⟩) HRw.out (.int .i64 sq)).setCell (p := ⟨rb, 2, none⟩) HRw.out (.int .i64 ts)).setCell (p := ⟨rb, 3, none⟩) HRw.out (.int .i64 kk)).setCell (p := ⟨rb, 4, none⟩) HRw.out (.int .i64 vl))
                refine hK.out _ _ (fun _ => ⟨(HEz).cell 0, (HEz).cell 1, (HEz).cell 2, (HEz).cell 3, (HEz).cell 4⟩) ?_
                clear hK K
                (try simp only [Act.put, List.setIfInBounds_toArray, List.set_cons_zero, List.set_cons_succ, List.getElem_toArray, List.getElem_cons_succ, List.getElem_cons_zero])
                refine upTo_done (by kernel_rfl) ?_
                go_wp2
                go_meet
                case rel => exact ⟨rfl, HRz, HBz⟩
              · skip
                go_simp
                refine (hiV _ HBv3.out).mono ?_
                rintro e v5 ⟨rfl, hbv5⟩
                have HBv5 : Hid (Below w.heap.size w v5) := HBv3.out.trans (hbv5.mono HBv3.out.size)
                have HEv5 : Hid (Blk v5 eb 37 [.int .i64 0, .int .i64 sq, .int .i64 ts, .int .i64 kk, .int .i64 vl]) := HEv3.out.below hbv5 HEv3.out.lt
                have HRv5 : Hid (Blk v5 rb 37 [.int .i64 0, .int .i64 0, .int .i64 0, .int .i64 0, .int .i64 0]) := HRv3.out.below hbv5 HRv3.out.lt
                have HCv5 : Hid (Blk v5 cbk 5 [.int .u8 kk]) := HCv3.out.below hbv5 HCv3.out.lt
                refine hK.out _ _ (fun _ => ⟨(HEv5.out).cell 0, (HEv5.out).cell 1, (HEv5.out).cell 2, (HEv5.out).cell 3, (HEv5.out).cell 4⟩) ?_
                clear hK K hS0
                (try simp only [Act.put, List.setIfInBounds_toArray, List.set_cons_zero, List.set_cons_succ, List.getElem_toArray, List.getElem_cons_succ, List.getElem_cons_zero])
                have hS0 : (fun u : World => u.cell? ⟨eb, 0, none⟩ = some (.int .i64 0) ∧ u.cell? ⟨eb, 1, none⟩ = some (.int .i64 sq) ∧ u.cell? ⟨eb, 2, none⟩ = some (.int .i64 ts) ∧ u.cell? ⟨eb, 3, none⟩ = some (.int .i64 kk) ∧ u.cell? ⟨eb, 4, none⟩ = some (.int .i64 vl)) v5 := ⟨(HEv5.out).cell 0, (HEv5.out).cell 1, (HEv5.out).cell 2, (HEv5.out).cell 3, (HEv5.out).cell 4⟩
                refine upTo_one (i := 14) (by kernel_rfl) rfl (fun K hK => ?_)
                have kc := conv_one HCv5.out HKb.out HK1.out
                go_simp
                refine hK.out _ _ (fun _ => ⟨(HEv5.out).cell 0, (HEv5.out).cell 1, (HEv5.out).cell 2, (HEv5.out).cell 3, (HEv5.out).cell 4⟩) ?_
                clear hK K kc
                (try simp only [Act.put, List.setIfInBounds_toArray, List.set_cons_zero, List.set_cons_succ, List.getElem_toArray, List.getElem_cons_succ, List.getElem_cons_zero])
                refine upTo_take2 (i := 15) (v := ?v62_15) rfl (by kernel_rfl) (by kernel_rfl) (by kernel_rfl) rfl (fun _ _ _ h => h) (by rfl) hS0 ?hy62_15 ?rest62_15
                case hy62_15 => (intro u hu; (try dsimp only at hu); go_simp; first | done | with_reducible rfl)
                (try simp only [Act.put, List.setIfInBounds_toArray, List.set_cons_zero, List.set_cons_succ, List.getElem_toArray, List.getElem_cons_succ, List.getElem_cons_zero])
                refine upTo_take2 (i := 16) (v := ?v62_16) rfl (by kernel_rfl) (by kernel_rfl) (by kernel_rfl) rfl (fun _ _ _ h => h) (by rfl) hS0 ?hy62_16 ?rest62_16
                case hy62_16 => (intro u hu; (try dsimp only at hu); go_simp; first | done | with_reducible rfl)
                (try simp only [Act.put, List.setIfInBounds_toArray, List.set_cons_zero, List.set_cons_succ, List.getElem_toArray, List.getElem_cons_succ, List.getElem_cons_zero])
                refine upTo_take2 (i := 20) (v := ?v62_20) rfl (by kernel_rfl) (by kernel_rfl) (by kernel_rfl) rfl (fun _ _ _ h => h) (by rfl) hS0 ?hy62_20 ?rest62_20
                case hy62_20 => (intro u hu; (try dsimp only at hu); go_simp; first | done | with_reducible rfl)
                (try simp only [Act.put, List.setIfInBounds_toArray, List.set_cons_zero, List.set_cons_succ, List.getElem_toArray, List.getElem_cons_succ, List.getElem_cons_zero])
                refine upTo_take2 (i := 21) (v := ?v62_21) rfl (by kernel_rfl) (by kernel_rfl) (by kernel_rfl) rfl (fun _ _ _ h => h) (by rfl) hS0 ?hy62_21 ?rest62_21
                case hy62_21 => (intro u hu; (try dsimp only at hu); go_simp; first | done | with_reducible rfl)
                (try simp only [Act.put, List.setIfInBounds_toArray, List.set_cons_zero, List.set_cons_succ, List.getElem_toArray, List.getElem_cons_succ, List.getElem_cons_zero])
                refine upTo_one (i := 23) (by kernel_rfl) rfl (fun K hK => ?_)
                go_simp
                refine hK.out _ _ (fun _ => ⟨(HEv5.out).cell 0, (HEv5.out).cell 1, (HEv5.out).cell 2, (HEv5.out).cell 3, (HEv5.out).cell 4⟩) ?_
                clear hK K
                (try simp only [Act.put, List.setIfInBounds_toArray, List.set_cons_zero, List.set_cons_succ, List.getElem_toArray, List.getElem_cons_succ, List.getElem_cons_zero])
                have z0 := HRv5.out.cell 0
                have z1 := HRv5.out.cell 1
                have z2 := HRv5.out.cell 2
                have z3 := HRv5.out.cell 3
                have z4 := HRv5.out.cell 4
                have y0 := HRv5.out.frozen 0
                have y1 := HRv5.out.frozen 1
                have y2 := HRv5.out.frozen 2
                have y3 := HRv5.out.frozen 3
                have y4 := HRv5.out.frozen 4
                simp only [List.getElem?_cons_zero, List.getElem?_cons_succ] at z0 z1 z2 z3 z4
                refine upTo_one (i := 24) (by kernel_rfl) rfl (fun K hK => ?_)
                go_simp
                have HEz := HEv5.out.kept ((((((Kept.refl (fun k => k = rb) v5).setCell (b := rb) (o := 0) (fun _ => rfl) (.int .i64 0)).setCell (b := rb) (o := 1) (fun _ => rfl) (.int .i64 sq)).setCell (b := rb) (o := 2) (fun _ => rfl) (.int .i64 ts)).setCell (b := rb) (o := 3) (fun _ => rfl) (.int .i64 kk)).setCell (b := rb) (o := 4) (fun _ => rfl) (.int .i64 vl)) HNe.out
                have HRz := ((((HRv5.out.set 0 (.int .i64 0)).set 1 (.int .i64 sq)).set 2 (.int .i64 ts)).set 3 (.int .i64 kk)).set 4 (.int .i64 vl)
                have HBz := (((((HBv5.out.setCell (p := ⟨rb, 0, none⟩) HRw.out (.int .i64 0)).setCell (p := ⟨rb, 1, none⟩) HRw.out (.int .i64 sq)).setCell (p := ⟨rb, 2, none⟩) HRw.out (.int .i64 ts)).setCell (p := ⟨rb, 3, none⟩) HRw.out (.int .i64 kk)).setCell (p := ⟨rb, 4, none⟩) HRw.out (.int .i64 vl))
                refine hK.out _ _ (fun _ => ⟨(HEz).cell 0, (HEz).cell 1, (HEz).cell 2, (HEz).cell 3, (HEz).cell 4⟩) ?_
                clear hK K
                (try simp only [Act.put, List.setIfInBounds_toArray, List.set_cons_zero, List.set_cons_succ, List.getElem_toArray, List.getElem_cons_succ, List.getElem_cons_zero])
                refine upTo_done (by kernel_rfl) ?_
                go_wp2
                go_meet
                case rel => exact ⟨rfl, HRz, HBz⟩
            · skip
              go_simp
              refine (hiV _ HBv2.out).mono ?_
              rintro e v6 ⟨rfl, hbv6⟩
              have HBv6 : Hid (Below w.heap.size w v6) := HBv2.out.trans (hbv6.mono HBv2.out.size)
              have HEv6 : Hid (Blk v6 eb 37 [.int .i64 0, .int .i64 sq, .int .i64 ts, .int .i64 kk, .int .i64 vl]) := HEv2.out.below hbv6 HEv2.out.lt
              have HRv6 : Hid (Blk v6 rb 37 [.int .i64 0, .int .i64 0, .int .i64 0, .int .i64 0, .int .i64 0]) := HRv2.out.below hbv6 HRv2.out.lt
              refine hK.out _ _ (fun _ => ⟨(HEv6.out).cell 0, (HEv6.out).cell 1, (HEv6.out).cell 2, (HEv6.out).cell 3, (HEv6.out).cell 4⟩) ?_
              clear hK K hS0
              (try simp only [Act.put, List.setIfInBounds_toArray, List.set_cons_zero, List.set_cons_succ, List.getElem_toArray, List.getElem_cons_succ, List.getElem_cons_zero])
              have hS0 : (fun u : World => u.cell? ⟨eb, 0, none⟩ = some (.int .i64 0) ∧ u.cell? ⟨eb, 1, none⟩ = some (.int .i64 sq) ∧ u.cell? ⟨eb, 2, none⟩ = some (.int .i64 ts) ∧ u.cell? ⟨eb, 3, none⟩ = some (.int .i64 kk) ∧ u.cell? ⟨eb, 4, none⟩ = some (.int .i64 vl)) v6 := ⟨(HEv6.out).cell 0, (HEv6.out).cell 1, (HEv6.out).cell 2, (HEv6.out).cell 3, (HEv6.out).cell 4⟩
              refine upTo_one (i := 13) (by kernel_rfl) rfl (fun K hK => ?_)
              go_simp
              refine hK.out _ _ (fun _ => ⟨((HEv6.out.alloc _)).cell 0, ((HEv6.out.alloc _)).cell 1, ((HEv6.out.alloc _)).cell 2, ((HEv6.out.alloc _)).cell 3, ((HEv6.out.alloc _)).cell 4⟩) ?_
              clear hK K hS0
              (try simp only [Act.put, List.setIfInBounds_toArray, List.set_cons_zero, List.set_cons_succ, List.getElem_toArray, List.getElem_cons_succ, List.getElem_cons_zero])
              obtain ⟨v7, HWv7⟩ := hex (v6.alloc (.cells [.int .u8 kk].toArray 5))
              have hwv7 : v6.alloc (.cells #[.int .u8 kk] 5) = v7 := HWv7.out.symm
              rw [hwv7]
              obtain ⟨cbk, HCbv7⟩ := hex v6.heap.size
              rw [← HCbv7.out]
              have HBv7 : Hid (Below w.heap.size w v7) := by show Below _ _ _; rw [HWv7.out]; exact HBv6.out.alloc HBv6.out.size _
              have HEv7 : Hid (Blk v7 eb 37 [.int .i64 0, .int .i64 sq, .int .i64 ts, .int .i64 kk, .int .i64 vl]) := by show Blk _ _ _ _; rw [HWv7.out]; exact HEv6.out.alloc _
              have HRv7 : Hid (Blk v7 rb 37 [.int .i64 0, .int .i64 0, .int .i64 0, .int .i64 0, .int .i64 0]) := by show Blk _ _ _ _; rw [HWv7.out]; exact HRv6.out.alloc _
              have HCv7 : Hid (Blk v7 cbk 5 [.int .u8 kk]) := by show Blk _ _ _ _; rw [HWv7.out, HCbv7.out]; exact blk_alloc _ _ _
              clear hwv7 HWv7 HCbv7
              have hS0 : (fun u : World => u.cell? ⟨eb, 0, none⟩ = some (.int .i64 0) ∧ u.cell? ⟨eb, 1, none⟩ = some (.int .i64 sq) ∧ u.cell? ⟨eb, 2, none⟩ = some (.int .i64 ts) ∧ u.cell? ⟨eb, 3, none⟩ = some (.int .i64 kk) ∧ u.cell? ⟨eb, 4, none⟩ = some (.int .i64 vl)) v7 := ⟨(HEv7.out).cell 0, (HEv7.out).cell 1, (HEv7.out).cell 2, (HEv7.out).cell 3, (HEv7.out).cell 4⟩
              refine upTo_one (i := 14) (by kernel_rfl) rfl (fun K hK => ?_)
              have kc := conv_one HCv7.out HKb.out HK1.out
              go_simp
              refine hK.out _ _ (fun _ => ⟨(HEv7.out).cell 0, (HEv7.out).cell 1, (HEv7.out).cell 2, (HEv7.out).cell 3, (HEv7.out).cell 4⟩) ?_
              clear hK K kc
              (try simp only [Act.put, List.setIfInBounds_toArray, List.set_cons_zero, List.set_cons_succ, List.getElem_toArray, List.getElem_cons_succ, List.getElem_cons_zero])
              refine upTo_take2 (i := 15) (v := ?v63_15) rfl (by kernel_rfl) (by kernel_rfl) (by kernel_rfl) rfl (fun _ _ _ h => h) (by rfl) hS0 ?hy63_15 ?rest63_15
              case hy63_15 => (intro u hu; (try dsimp only at hu); go_simp; first | done | with_reducible rfl)
              (try simp only [Act.put, List.setIfInBounds_toArray, List.set_cons_zero, List.set_cons_succ, List.getElem_toArray, List.getElem_cons_succ, List.getElem_cons_zero])
              refine upTo_take2 (i := 16) (v := ?v63_16) rfl (by kernel_rfl) (by kernel_rfl) (by kernel_rfl) rfl (fun _ _ _ h => h) (by rfl) hS0 ?hy63_16 ?rest63_16
              case hy63_16 => (intro u hu; (try dsimp only at hu); go_simp; first | done | with_reducible rfl)
              (try simp only [Act.put, List.setIfInBounds_toArray, List.set_cons_zero, List.set_cons_succ, List.getElem_toArray, List.getElem_cons_succ, List.getElem_cons_zero])
              refine upTo_take2 (i := 20) (v := ?v63_20) rfl (by kernel_rfl) (by kernel_rfl) (by kernel_rfl) rfl (fun _ _ _ h => h) (by rfl) hS0 ?hy63_20 ?rest63_20
              case hy63_20 => (intro u hu; (try dsimp only at hu); go_simp; first | done | with_reducible rfl)
              (try simp only [Act.put, List.setIfInBounds_toArray, List.set_cons_zero, List.set_cons_succ, List.getElem_toArray, List.getElem_cons_succ, List.getElem_cons_zero])
              refine upTo_take2 (i := 21) (v := ?v63_21) rfl (by kernel_rfl) (by kernel_rfl) (by kernel_rfl) rfl (fun _ _ _ h => h) (by rfl) hS0 ?hy63_21 ?rest63_21
              case hy63_21 => (intro u hu; (try dsimp only at hu); go_simp; first | done | with_reducible rfl)
              (try simp only [Act.put, List.setIfInBounds_toArray, List.set_cons_zero, List.set_cons_succ, List.getElem_toArray, List.getElem_cons_succ, List.getElem_cons_zero])
              refine upTo_one (i := 23) (by kernel_rfl) rfl (fun K hK => ?_)
              go_simp
              refine hK.out _ _ (fun _ => ⟨(HEv7.out).cell 0, (HEv7.out).cell 1, (HEv7.out).cell 2, (HEv7.out).cell 3, (HEv7.out).cell 4⟩) ?_
              clear hK K
              (try simp only [Act.put, List.setIfInBounds_toArray, List.set_cons_zero, List.set_cons_succ, List.getElem_toArray, List.getElem_cons_succ, List.getElem_cons_zero])
              have z0 := HRv7.out.cell 0
              have z1 := HRv7.out.cell 1
              have z2 := HRv7.out.cell 2
              have z3 := HRv7.out.cell 3
              have z4 := HRv7.out.cell 4
              have y0 := HRv7.out.frozen 0
              have y1 := HRv7.out.frozen 1
              have y2 := HRv7.out.frozen 2
              have y3 := HRv7.out.frozen 3
              have y4 := HRv7.out.frozen 4
              simp only [List.getElem?_cons_zero, List.getElem?_cons_succ] at z0 z1 z2 z3 z4
              refine upTo_one (i := 24) (by kernel_rfl) rfl (fun K hK => ?_)
              go_simp
              have HEz := HEv7.out.kept ((((((Kept.refl (fun k => k = rb) v7).setCell (b := rb) (o := 0) (fun _ => rfl) (.int .i64 0)).setCell (b := rb) (o := 1) (fun _ => rfl) (.int .i64 sq)).setCell (b := rb) (o := 2) (fun _ => rfl) (.int .i64 ts)).setCell (b := rb) (o := 3) (fun _ => rfl) (.int .i64 kk)).setCell (b := rb) (o := 4) (fun _ => rfl) (.int .i64 vl)) HNe.out
              have HRz := ((((HRv7.out.set 0 (.int .i64 0)).set 1 (.int .i64 sq)).set 2 (.int .i64 ts)).set 3 (.int .i64 kk)).set 4 (.int .i64 vl)
              have HBz := (((((HBv7.out.setCell (p := ⟨rb, 0, none⟩) HRw.out (.int .i64 0)).setCell (p := ⟨rb, 1, none⟩) HRw.out (.int .i64 sq)).setCell (p := ⟨rb, 2, none⟩) HRw.out (.int .i64 ts)).setCell (p := ⟨rb, 3, none⟩) HRw.out (.int .i64 kk)).setCell (p := ⟨rb, 4, none⟩) HRw.out (.int .i64 vl))
              refine hK.out _ _ (fun _ => ⟨(HEz).cell 0, (HEz).cell 1, (HEz).cell 2, (HEz).cell 3, (HEz).cell 4⟩) ?_
              clear hK K
              (try simp only [Act.put, List.setIfInBounds_toArray, List.set_cons_zero, List.set_cons_succ, List.getElem_toArray, List.getElem_cons_succ, List.getElem_cons_zero])
              refine upTo_done (by kernel_rfl) ?_
              go_wp2
              go_meet
              case rel => exact ⟨rfl, HRz, HBz⟩
          · skip
            go_simp
            refine hK.out _ _ (fun _ => ⟨((HEv1.out.alloc _)).cell 0, ((HEv1.out.alloc _)).cell 1, ((HEv1.out.alloc _)).cell 2, ((HEv1.out.alloc _)).cell 3, ((HEv1.out.alloc _)).cell 4⟩) ?_
            clear hK K hS0
            (try simp only [Act.put, List.setIfInBounds_toArray, List.set_cons_zero, List.set_cons_succ, List.getElem_toArray, List.getElem_cons_succ, List.getElem_cons_zero])
            obtain ⟨v8, HWv8⟩ := hex (v1.alloc (.cells [.int .u8 kk].toArray 5))
            have hwv8 : v1.alloc (.cells #[.int .u8 kk] 5) = v8 := HWv8.out.symm
            rw [hwv8]
            obtain ⟨cbk, HCbv8⟩ := hex v1.heap.size
            rw [← HCbv8.out]
            have HBv8 : Hid (Below w.heap.size w v8) := by show Below _ _ _; rw [HWv8.out]; exact HBv1.out.alloc HBv1.out.size _
            have HEv8 : Hid (Blk v8 eb 37 [.int .i64 0, .int .i64 sq, .int .i64 ts, .int .i64 kk, .int .i64 vl]) := by show Blk _ _ _ _; rw [HWv8.out]; exact HEv1.out.alloc _
            have HRv8 : Hid (Blk v8 rb 37 [.int .i64 0, .int .i64 0, .int .i64 0, .int .i64 0, .int .i64 0]) := by show Blk _ _ _ _; rw [HWv8.out]; exact HRv1.out.alloc _
            have HCv8 : Hid (Blk v8 cbk 5 [.int .u8 kk]) := by show Blk _ _ _ _; rw [HWv8.out, HCbv8.out]; exact blk_alloc _ _ _
            clear hwv8 HWv8 HCbv8
            have hS0 : (fun u : World => u.cell? ⟨eb, 0, none⟩ = some (.int .i64 0) ∧ u.cell? ⟨eb, 1, none⟩ = some (.int .i64 sq) ∧ u.cell? ⟨eb, 2, none⟩ = some (.int .i64 ts) ∧ u.cell? ⟨eb, 3, none⟩ = some (.int .i64 kk) ∧ u.cell? ⟨eb, 4, none⟩ = some (.int .i64 vl)) v8 := ⟨(HEv8.out).cell 0, (HEv8.out).cell 1, (HEv8.out).cell 2, (HEv8.out).cell 3, (HEv8.out).cell 4⟩
            refine upTo_two (i := 7) (j := 14) (by kernel_rfl) rfl rfl (fun K hK => ?_) (fun K hK => ?_)
            · skip
              go_simp
              refine (hiT _ HBv8.out).mono ?_
              rintro e v9 ⟨rfl, hbv9⟩
              have HBv9 : Hid (Below w.heap.size w v9) := HBv8.out.trans (hbv9.mono HBv8.out.size)
              have HEv9 : Hid (Blk v9 eb 37 [.int .i64 0, .int .i64 sq, .int .i64 ts, .int .i64 kk, .int .i64 vl]) := HEv8.out.below hbv9 HEv8.out.lt
              have HRv9 : Hid (Blk v9 rb 37 [.int .i64 0, .int .i64 0, .int .i64 0, .int .i64 0, .int .i64 0]) := HRv8.out.below hbv9 HRv8.out.lt
              have HCv9 : Hid (Blk v9 cbk 5 [.int .u8 kk]) := HCv8.out.below hbv9 HCv8.out.lt
              refine hK.out _ _ (fun _ => ⟨(HEv9.out).cell 0, (HEv9.out).cell 1, (HEv9.out).cell 2, (HEv9.out).cell 3, (HEv9.out).cell 4⟩) ?_
              clear hK K hS0
              (try simp only [Act.put, List.setIfInBounds_toArray, List.set_cons_zero, List.set_cons_succ, List.getElem_toArray, List.getElem_cons_succ, List.getElem_cons_zero])
              have hS0 : (fun u : World => u.cell? ⟨eb, 0, none⟩ = some (.int .i64 0) ∧ u.cell? ⟨eb, 1, none⟩ = some (.int .i64 sq) ∧ u.cell? ⟨eb, 2, none⟩ = some (.int .i64 ts) ∧ u.cell? ⟨eb, 3, none⟩ = some (.int .i64 kk) ∧ u.cell? ⟨eb, 4, none⟩ = some (.int .i64 vl)) v9 := ⟨(HEv9.out).cell 0, (HEv9.out).cell 1, (HEv9.out).cell 2, (HEv9.out).cell 3, (HEv9.out).cell 4⟩
              refine upTo_take2 (i := 8) (v := ?v64_8) rfl (by kernel_rfl) (by kernel_rfl) (by kernel_rfl) rfl (fun _ _ _ h => h) (by rfl) hS0 ?hy64_8 ?rest64_8
              case hy64_8 => (intro u hu; (try dsimp only at hu); go_simp; first | done | with_reducible rfl)
              (try simp only [Act.put, List.setIfInBounds_toArray, List.set_cons_zero, List.set_cons_succ, List.getElem_toArray, List.getElem_cons_succ, List.getElem_cons_zero])
              refine upTo_take2 (i := 9) (v := ?v64_9) rfl (by kernel_rfl) (by kernel_rfl) (by kernel_rfl) rfl (fun _ _ _ h => h) (by rfl) hS0 ?hy64_9 ?rest64_9
              case hy64_9 => (intro u hu; (try dsimp only at hu); go_simp; first | done | with_reducible rfl)
              (try simp only [Act.put, List.setIfInBounds_toArray, List.set_cons_zero, List.set_cons_succ, List.getElem_toArray, List.getElem_cons_succ, List.getElem_cons_zero])
              refine upTo_two (i := 14) (j := 19) (by kernel_rfl) rfl rfl (fun K hK => ?_) (fun K hK => ?_)
              · skip
                have kc := conv_one HCv9.out HKb.out HK1.out
                go_simp
                refine hK.out _ _ (fun _ => ⟨(HEv9.out).cell 0, (HEv9.out).cell 1, (HEv9.out).cell 2, (HEv9.out).cell 3, (HEv9.out).cell 4⟩) ?_
                clear hK K kc
                (try simp only [Act.put, List.setIfInBounds_toArray, List.set_cons_zero, List.set_cons_succ, List.getElem_toArray, List.getElem_cons_succ, List.getElem_cons_zero])
                refine upTo_take2 (i := 15) (v := ?v65_15) rfl (by kernel_rfl) (by kernel_rfl) (by kernel_rfl) rfl (fun _ _ _ h => h) (by rfl) hS0 ?hy65_15 ?rest65_15
                case hy65_15 => (intro u hu; (try dsimp only at hu); go_simp; first | done | with_reducible rfl)
                (try simp only [Act.put, List.setIfInBounds_toArray, List.set_cons_zero, List.set_cons_succ, List.getElem_toArray, List.getElem_cons_succ, List.getElem_cons_zero])
                refine upTo_take2 (i := 16) (v := ?v65_16) rfl (by kernel_rfl) (by kernel_rfl) (by kernel_rfl) rfl (fun _ _ _ h => h) (by rfl) hS0 ?hy65_16 ?rest65_16
                case hy65_16 => (intro u hu; (try dsimp only at hu); go_simp; first | done | with_reducible rfl)
                (try simp only [Act.put, List.setIfInBounds_toArray, List.set_cons_zero, List.set_cons_succ, List.getElem_toArray, List.getElem_cons_succ, List.getElem_cons_zero])
                refine upTo_one (i := 19) (by kernel_rfl) rfl (fun K hK => ?_)
                go_simp
                refine (hiV _ HBv9.out).mono ?_
                rintro e v10 ⟨rfl, hbv10⟩
                have HBv10 : Hid (Below w.heap.size w v10) := HBv9.out.trans (hbv10.mono HBv9.out.size)
                have HEv10 : Hid (Blk v10 eb 37 [.int .i64 0, .int .i64 sq, .int .i64 ts, .int .i64 kk, .int .i64 vl]) := HEv9.out.below hbv10 HEv9.out.lt
                have HRv10 : Hid (Blk v10 rb 37 [.int .i64 0, .int .i64 0, .int .i64 0, .int .i64 0, .int .i64 0]) := HRv9.out.below hbv10 HRv9.out.lt
                refine hK.out _ _ (fun _ => ⟨(HEv10.out).cell 0, (HEv10.out).cell 1, (HEv10.out).cell 2, (HEv10.out).cell 3, (HEv10.out).cell 4⟩) ?_
                clear hK K hS0
                (try simp only [Act.put, List.setIfInBounds_toArray, List.set_cons_zero, List.set_cons_succ, List.getElem_toArray, List.getElem_cons_succ, List.getElem_cons_zero])
                have hS0 : (fun u : World => u.cell? ⟨eb, 0, none⟩ = some (.int .i64 0) ∧ u.cell? ⟨eb, 1, none⟩ = some (.int .i64 sq) ∧ u.cell? ⟨eb, 2, none⟩ = some (.int .i64 ts) ∧ u.cell? ⟨eb, 3, none⟩ = some (.int .i64 kk) ∧ u.cell? ⟨eb, 4, none⟩ = some (.int .i64 vl)) v10 := ⟨(HEv10.out).cell 0, (HEv10.out).cell 1, (HEv10.out).cell 2, (HEv10.out).cell 3, (HEv10.out).cell 4⟩
                refine upTo_take2 (i := 20) (v := ?v66_20) rfl (by kernel_rfl) (by kernel_rfl) (by kernel_rfl) rfl (fun _ _ _ h => h) (by rfl) hS0 ?hy66_20 ?rest66_20
                case hy66_20 => (intro u hu; (try dsimp only at hu); go_simp; first | done | with_reducible rfl)
                (try simp only [Act.put, List.setIfInBounds_toArray, List.set_cons_zero, List.set_cons_succ, List.getElem_toArray, List.getElem_cons_succ, List.getElem_cons_zero])
                refine upTo_take2 (i := 21) (v := ?v66_21) rfl (by kernel_rfl) (by kernel_rfl) (by kernel_rfl) rfl (fun _ _ _ h => h) (by rfl) hS0 ?hy66_21 ?rest66_21
                case hy66_21 => (intro u hu; (try dsimp only at hu); go_simp; first | done | with_reducible rfl)
                (try simp only [Act.put, List.setIfInBounds_toArray, List.set_cons_zero, List.set_cons_succ, List.getElem_toArray, List.getElem_cons_succ, List.getElem_cons_zero])
                refine upTo_one (i := 23) (by kernel_rfl) rfl (fun K hK => ?_)
                go_simp
                refine hK.out _ _ (fun _ => ⟨(HEv10.out).cell 0, (HEv10.out).cell 1, (HEv10.out).cell 2, (HEv10.out).cell 3, (HEv10.out).cell 4⟩) ?_
                clear hK K
                (try simp only [Act.put, List.setIfInBounds_toArray, List.set_cons_zero, List.set_cons_succ, List.getElem_toArray, List.getElem_cons_succ, List.getElem_cons_zero])
                have z0 := HRv10.out.cell 0
                have z1 := HRv10.out.cell 1
                have z2 := HRv10.out.cell 2
                have z3 := HRv10.out.cell 3
                have z4 := HRv10.out.cell 4
                have y0 := HRv10.out.frozen 0
                have y1 := HRv10.out.frozen 1
                have y2 := HRv10.out.frozen 2
                have y3 := HRv10.out.frozen 3
                have y4 := HRv10.out.frozen 4
                simp only [List.getElem?_cons_zero, List.getElem?_cons_succ] at z0 z1 z2 z3 z4
                refine upTo_one (i := 24) (by kernel_rfl) rfl (fun K hK => ?_)
                go_simp
                have HEz := HEv10.out.kept ((((((Kept.refl (fun k => k = rb) v10).setCell (b := rb) (o := 0) (fun _ => rfl) (.int .i64 0)).setCell (b := rb) (o := 1) (fun _ => rfl) (.int .i64 sq)).setCell (b := rb) (o := 2) (fun _ => rfl) (.int .i64 ts)).setCell (b := rb) (o := 3) (fun _ => rfl) (.int .i64 kk)).setCell (b := rb) (o := 4) (fun _ => rfl) (.int .i64 vl)) HNe.out
                have HRz := ((((HRv10.out.set 0 (.int .i64 0)).set 1 (.int .i64 sq)).set 2 (.int .i64 ts)).set 3 (.int .i64 kk)).set 4 (.int .i64 vl)
                have HBz := (((((HBv10.out.setCell (p := ⟨rb, 0, none⟩) HRw.out (.int .i64 0)).setCell (p := ⟨rb, 1, none⟩) HRw.out (.int .i64 sq)).setCell (p := ⟨rb, 2, none⟩) HRw.out (.int .i64 ts)).setCell (p := ⟨rb, 3, none⟩) HRw.out (.int .i64 kk)).setCell (p := ⟨rb, 4, none⟩) HRw.out (.int .i64 vl))
                refine hK.out _ _ (fun _ => ⟨(HEz).cell 0, (HEz).cell 1, (HEz).cell 2, (HEz).cell 3, (HEz).cell 4⟩) ?_
                clear hK K
                (try simp only [Act.put, List.setIfInBounds_toArray, List.set_cons_zero, List.set_cons_succ, List.getElem_toArray, List.getElem_cons_succ, List.getElem_cons_zero])
                refine upTo_done (by kernel_rfl) ?_
                go_wp2
                go_meet
                case rel => exact ⟨rfl, HRz, HBz⟩
              · skip
                go_simp
                refine (hiV _ HBv9.out).mono ?_
                rintro e v11 ⟨rfl, hbv11⟩
                have HBv11 : Hid (Below w.heap.size w v11) := HBv9.out.trans (hbv11.mono HBv9.out.size)
                have HEv11 : Hid (Blk v11 eb 37 [.int .i64 0, .int .i64 sq, .int .i64 ts, .int .i64 kk, .int .i64 vl]) := HEv9.out.below hbv11 HEv9.out.lt
                have HRv11 : Hid (Blk v11 rb 37 [.int .i64 0, .int .i64 0, .int .i64 0, .int .i64 0, .int .i64 0]) := HRv9.out.below hbv11 HRv9.out.lt
                have HCv11 : Hid (Blk v11 cbk 5 [.int .u8 kk]) := HCv9.out.below hbv11 HCv9.out.lt
                refine hK.out _ _ (fun _ => ⟨(HEv11.out).cell 0, (HEv11.out).cell 1, (HEv11.out).cell 2, (HEv11.out).cell 3, (HEv11.out).cell 4⟩) ?_
                clear hK K hS0
                (try simp only [Act.put, List.setIfInBounds_toArray, List.set_cons_zero, List.set_cons_succ, List.getElem_toArray, List.getElem_cons_succ, List.getElem_cons_zero])
                have hS0 : (fun u : World => u.cell? ⟨eb, 0, none⟩ = some (.int .i64 0) ∧ u.cell? ⟨eb, 1, none⟩ = some (.int .i64 sq) ∧ u.cell? ⟨eb, 2, none⟩ = some (.int .i64 ts) ∧ u.cell? ⟨eb, 3, none⟩ = some (.int .i64 kk) ∧ u.cell? ⟨eb, 4, none⟩ = some (.int .i64 vl)) v11 := ⟨(HEv11.out).cell 0, (HEv11.out).cell 1, (HEv11.out).cell 2, (HEv11.out).cell 3, (HEv11.out).cell 4⟩
                refine upTo_one (i := 14) (by kernel_rfl) rfl (fun K hK => ?_)
                have kc := conv_one HCv11.out HKb.out HK1.out
                go_simp
                refine hK.out _ _ (fun _ => ⟨(HEv11.out).cell 0, (HEv11.out).cell 1, (HEv11.out).cell 2, (HEv11.out).cell 3, (HEv11.out).cell 4⟩) ?_
                clear hK K kc
                (try simp only [Act.put, List.setIfInBounds_toArray, List.set_cons_zero, List.set_cons_succ, List.getElem_toArray, List.getElem_cons_succ, List.getElem_cons_zero])
                refine upTo_take2 (i := 15) (v := ?v67_15) rfl (by kernel_rfl) (by kernel_rfl) (by kernel_rfl) rfl (fun _ _ _ h => h) (by rfl) hS0 ?hy67_15 ?rest67_15
                case hy67_15 => (intro u hu; (try dsimp only at hu); go_simp; first | done | with_reducible rfl)
                (try simp only [Act.put, List.setIfInBounds_toArray, List.set_cons_zero, List.set_cons_succ, List.getElem_toArray, List.getElem_cons_succ, List.getElem_cons_zero])
                refine upTo_take2 (i := 16) (v := ?v67_16) rfl (by kernel_rfl) (by kernel_rfl) (by kernel_rfl) rfl (fun _ _ _ h => h) (by rfl) hS0 ?hy67_16 ?rest67_16
                case hy67_16 => (intro u hu; (try dsimp only at hu); go_simp; first | done | with_reducible rfl)
                (try simp only [Act.put, List.setIfInBounds_toArray, List.set_cons_zero, List.set_cons_succ, List.getElem_toArray, List.getElem_cons_succ, List.getElem_cons_zero])
                refine upTo_take2 (i := 20) (v := ?v67_20) rfl (by kernel_rfl) (by kernel_rfl) (by kernel_rfl) rfl (fun _ _ _ h => h) (by rfl) hS0 ?hy67_20 ?rest67_20
                case hy67_20 => (intro u hu; (try dsimp only at hu); go_simp; first | done | with_reducible rfl)
                (try simp only [Act.put, List.setIfInBounds_toArray, List.set_cons_zero, List.set_cons_succ, List.getElem_toArray, List.getElem_cons_succ, List.getElem_cons_zero])
                refine upTo_take2 (i := 21) (v := ?v67_21) rfl (by kernel_rfl) (by kernel_rfl) (by kernel_rfl) rfl (fun _ _ _ h => h) (by rfl) hS0 ?hy67_21 ?rest67_21
                case hy67_21 => (intro u hu; (try dsimp only at hu); go_simp; first | done | with_reducible rfl)
                (try simp only [Act.put, List.setIfInBounds_toArray, List.set_cons_zero, List.set_cons_succ, List.getElem_toArray, List.getElem_cons_succ, List.getElem_cons_zero])
                refine upTo_one (i := 23) (by kernel_rfl) rfl (fun K hK => ?_)
                go_simp
                refine hK.out _ _ (fun _ => ⟨(HEv11.out).cell 0, (HEv11.out).cell 1, (HEv11.out).cell 2, (HEv11.out).cell 3, (HEv11.out).cell 4⟩) ?_
                clear hK K
                (try simp only [Act.put, List.setIfInBounds_toArray, List.set_cons_zero, List.set_cons_succ, List.getElem_toArray, List.getElem_cons_succ, List.getElem_cons_zero])
                have z0 := HRv11.out.cell 0
                have z1 := HRv11.out.cell 1
                have z2 := HRv11.out.cell 2
                have z3 := HRv11.out.cell 3
                have z4 := HRv11.out.cell 4
                have y0 := HRv11.out.frozen 0
                have y1 := HRv11.out.frozen 1
                have y2 := HRv11.out.frozen 2
                have y3 := HRv11.out.frozen 3
                have y4 := HRv11.out.frozen 4
                simp only [List.getElem?_cons_zero, List.getElem?_cons_succ] at z0 z1 z2 z3 z4
                refine upTo_one (i := 24) (by kernel_rfl) rfl (fun K hK => ?_)
                go_simp
                have HEz := HEv11.out.kept ((((((Kept.refl (fun k => k = rb) v11).setCell (b := rb) (o := 0) (fun _ => rfl) (.int .i64 0)).setCell (b := rb) (o := 1) (fun _ => rfl) (.int .i64 sq)).setCell (b := rb) (o := 2) (fun _ => rfl) (.int .i64 ts)).setCell (b := rb) (o := 3) (fun _ => rfl) (.int .i64 kk)).setCell (b := rb) (o := 4) (fun _ => rfl) (.int .i64 vl)) HNe.out
                have HRz := ((((HRv11.out.set 0 (.int .i64 0)).set 1 (.int .i64 sq)).set 2 (.int .i64 ts)).set 3 (.int .i64 kk)).set 4 (.int .i64 vl)
                have HBz := (((((HBv11.out.setCell (p := ⟨rb, 0, none⟩) HRw.out (.int .i64 0)).setCell (p := ⟨rb, 1, none⟩) HRw.out (.int .i64 sq)).setCell (p := ⟨rb, 2, none⟩) HRw.out (.int .i64 ts)).setCell (p := ⟨rb, 3, none⟩) HRw.out (.int .i64 kk)).setCell (p := ⟨rb, 4, none⟩) HRw.out (.int .i64 vl))
                refine hK.out _ _ (fun _ => ⟨(HEz).cell 0, (HEz).cell 1, (HEz).cell 2, (HEz).cell 3, (HEz).cell 4⟩) ?_
                clear hK K
                (try simp only [Act.put, List.setIfInBounds_toArray, List.set_cons_zero, List.set_cons_succ, List.getElem_toArray, List.getElem_cons_succ, List.getElem_cons_zero])
                refine upTo_done (by kernel_rfl) ?_
                go_wp2
                go_meet
                case rel => exact ⟨rfl, HRz, HBz⟩
            · skip
              have kc := conv_one HCv8.out HKb.out HK1.out
              go_simp
              refine hK.out _ _ (fun _ => ⟨(HEv8.out).cell 0, (HEv8.out).cell 1, (HEv8.out).cell 2, (HEv8.out).cell 3, (HEv8.out).cell 4⟩) ?_
              clear hK K kc
              (try simp only [Act.put, List.setIfInBounds_toArray, List.set_cons_zero, List.set_cons_succ, List.getElem_toArray, List.getElem_cons_succ, List.getElem_cons_zero])
              refine upTo_one (i := 7) (by kernel_rfl) rfl (fun K hK => ?_)
              go_simp
              refine (hiT _ HBv8.out).mono ?_
              rintro e v12 ⟨rfl, hbv12⟩
              have HBv12 : Hid (Below w.heap.size w v12) := HBv8.out.trans (hbv12.mono HBv8.out.size)
              have HEv12 : Hid (Blk v12 eb 37 [.int .i64 0, .int .i64 sq, .int .i64 ts, .int .i64 kk, .int .i64 vl]) := HEv8.out.below hbv12 HEv8.out.lt
              have HRv12 : Hid (Blk v12 rb 37 [.int .i64 0, .int .i64 0, .int .i64 0, .int .i64 0, .int .i64 0]) := HRv8.out.below hbv12 HRv8.out.lt
              refine hK.out _ _ (fun _ => ⟨(HEv12.out).cell 0, (HEv12.out).cell 1, (HEv12.out).cell 2, (HEv12.out).cell 3, (HEv12.out).cell 4⟩) ?_
              clear hK K hS0
              (try simp only [Act.put, List.setIfInBounds_toArray, List.set_cons_zero, List.set_cons_succ, List.getElem_toArray, List.getElem_cons_succ, List.getElem_cons_zero])
              have hS0 : (fun u : World => u.cell? ⟨eb, 0, none⟩ = some (.int .i64 0) ∧ u.cell? ⟨eb, 1, none⟩ = some (.int .i64 sq) ∧ u.cell? ⟨eb, 2, none⟩ = some (.int .i64 ts) ∧ u.cell? ⟨eb, 3, none⟩ = some (.int .i64 kk) ∧ u.cell? ⟨eb, 4, none⟩ = some (.int .i64 vl)) v12 := ⟨(HEv12.out).cell 0, (HEv12.out).cell 1, (HEv12.out).cell 2, (HEv12.out).cell 3, (HEv12.out).cell 4⟩
              refine upTo_take2 (i := 8) (v := ?v68_8) rfl (by kernel_rfl) (by kernel_rfl) (by kernel_rfl) rfl (fun _ _ _ h => h) (by rfl) hS0 ?hy68_8 ?rest68_8
              case hy68_8 => (intro u hu; (try dsimp only at hu); go_simp; first | done | with_reducible rfl)
              (try simp only [Act.put, List.setIfInBounds_toArray, List.set_cons_zero, List.set_cons_succ, List.getElem_toArray, List.getElem_cons_succ, List.getElem_cons_zero])
              refine upTo_take2 (i := 9) (v := ?v68_9) rfl (by kernel_rfl) (by kernel_rfl) (by kernel_rfl) rfl (fun _ _ _ h => h) (by rfl) hS0 ?hy68_9 ?rest68_9
              case hy68_9 => (intro u hu; (try dsimp only at hu); go_simp; first | done | with_reducible rfl)
              (try simp only [Act.put, List.setIfInBounds_toArray, List.set_cons_zero, List.set_cons_succ, List.getElem_toArray, List.getElem_cons_succ, List.getElem_cons_zero])
              refine upTo_take2 (i := 15) (v := ?v68_15) rfl (by kernel_rfl) (by kernel_rfl) (by kernel_rfl) rfl (fun _ _ _ h => h) (by rfl) hS0 ?hy68_15 ?rest68_15
              case hy68_15 => (intro u hu; (try dsimp only at hu); go_simp; first | done | with_reducible rfl)
              (try simp only [Act.put, List.setIfInBounds_toArray, List.set_cons_zero, List.set_cons_succ, List.getElem_toArray, List.getElem_cons_succ, List.getElem_cons_zero])
              refine upTo_take2 (i := 16) (v := ?v68_16) rfl (by kernel_rfl) (by kernel_rfl) (by kernel_rfl) rfl (fun _ _ _ h => h) (by rfl) hS0 ?hy68_16 ?rest68_16
              case hy68_16 => (intro u hu; (try dsimp only at hu); go_simp; first | done | with_reducible rfl)
              (try simp only [Act.put, List.setIfInBounds_toArray, List.set_cons_zero, List.set_cons_succ, List.getElem_toArray, List.getElem_cons_succ, List.getElem_cons_zero])
              refine upTo_one (i := 19) (by kernel_rfl) rfl (fun K hK => ?_)
              go_simp
              refine (hiV _ HBv12.out).mono ?_
              rintro e v13 ⟨rfl, hbv13⟩
              have HBv13 : Hid (Below w.heap.size w v13) := HBv12.out.trans (hbv13.mono HBv12.out.size)
              have HEv13 : Hid (Blk v13 eb 37 [.int .i64 0, .int .i64 sq, .int .i64 ts, .int .i64 kk, .int .i64 vl]) := HEv12.out.below hbv13 HEv12.out.lt
              have HRv13 : Hid (Blk v13 rb 37 [.int .i64 0, .int .i64 0, .int .i64 0, .int .i64 0, .int .i64 0]) := HRv12.out.below hbv13 HRv12.out.lt
              refine hK.out _ _ (fun _ => ⟨(HEv13.out).cell 0, (HEv13.out).cell 1, (HEv13.out).cell 2, (HEv13.out).cell 3, (HEv13.out).cell 4⟩) ?_
              clear hK K hS0
              (try simp only [Act.put, List.setIfInBounds_toArray, List.set_cons_zero, List.set_cons_succ, List.getElem_toArray, List.getElem_cons_succ, List.getElem_cons_zero])
              have hS0 : (fun u : World => u.cell? ⟨eb, 0, none⟩ = some (.int .i64 0) ∧ u.cell? ⟨eb, 1, none⟩ = some (.int .i64 sq) ∧ u.cell? ⟨eb, 2, none⟩ = some (.int .i64 ts) ∧ u.cell? ⟨eb, 3, none⟩ = some (.int .i64 kk) ∧ u.cell? ⟨eb, 4, none⟩ = some (.int .i64 vl)) v13 := ⟨(HEv13.out).cell 0, (HEv13.out).cell 1, (HEv13.out).cell 2, (HEv13.out).cell 3, (HEv13.out).cell 4⟩
              refine upTo_take2 (i := 20) (v := ?v69_20) rfl (by kernel_rfl) (by kernel_rfl) (by kernel_rfl) rfl (fun _ _ _ h => h) (by rfl) hS0 ?hy69_20 ?rest69_20
              case hy69_20 => (intro u hu; (try dsimp only at hu); go_simp; first | done | with_reducible rfl)
              (try simp only [Act.put, List.setIfInBounds_toArray, List.set_cons_zero, List.set_cons_succ, List.getElem_toArray, List.getElem_cons_succ, List.getElem_cons_zero])
              refine upTo_take2 (i := 21) (v := ?v69_21) rfl (by kernel_rfl) (by kernel_rfl) (by kernel_rfl) rfl (fun _ _ _ h => h) (by rfl) hS0 ?hy69_21 ?rest69_21
              case hy69_21 => (intro u hu; (try dsimp only at hu); go_simp; first | done | with_reducible rfl)
              (try simp only [Act.put, List.setIfInBounds_toArray, List.set_cons_zero, List.set_cons_succ, List.getElem_toArray, List.getElem_cons_succ, List.getElem_cons_zero])
              refine upTo_one (i := 23) (by kernel_rfl) rfl (fun K hK => ?_)
              go_simp
              refine hK.out _ _ (fun _ => ⟨(HEv13.out).cell 0, (HEv13.out).cell 1, (HEv13.out).cell 2, (HEv13.out).cell 3, (HEv13.out).cell 4⟩) ?_
              clear hK K
              (try simp only [Act.put, List.setIfInBounds_toArray, List.set_cons_zero, List.set_cons_succ, List.getElem_toArray, List.getElem_cons_succ, List.getElem_cons_zero])
              have z0 := HRv13.out.cell 0
              have z1 := HRv13.out.cell 1
              have z2 := HRv13.out.cell 2
              have z3 := HRv13.out.cell 3
              have z4 := HRv13.out.cell 4
              have y0 := HRv13.out.frozen 0
              have y1 := HRv13.out.frozen 1
              have y2 := HRv13.out.frozen 2
              have y3 := HRv13.out.frozen 3
              have y4 := HRv13.out.frozen 4
              simp only [List.getElem?_cons_zero, List.getElem?_cons_succ] at z0 z1 z2 z3 z4
              refine upTo_one (i := 24) (by kernel_rfl) rfl (fun K hK => ?_)
              go_simp
              have HEz := HEv13.out.kept ((((((Kept.refl (fun k => k = rb) v13).setCell (b := rb) (o := 0) (fun _ => rfl) (.int .i64 0)).setCell (b := rb) (o := 1) (fun _ => rfl) (.int .i64 sq)).setCell (b := rb) (o := 2) (fun _ => rfl) (.int .i64 ts)).setCell (b := rb) (o := 3) (fun _ => rfl) (.int .i64 kk)).setCell (b := rb) (o := 4) (fun _ => rfl) (.int .i64 vl)) HNe.out
              have HRz := ((((HRv13.out.set 0 (.int .i64 0)).set 1 (.int .i64 sq)).set 2 (.int .i64 ts)).set 3 (.int .i64 kk)).set 4 (.int .i64 vl)
              have HBz := (((((HBv13.out.setCell (p := ⟨rb, 0, none⟩) HRw.out (.int .i64 0)).setCell (p := ⟨rb, 1, none⟩) HRw.out (.int .i64 sq)).setCell (p := ⟨rb, 2, none⟩) HRw.out (.int .i64 ts)).setCell (p := ⟨rb, 3, none⟩) HRw.out (.int .i64 kk)).setCell (p := ⟨rb, 4, none⟩) HRw.out (.int .i64 vl))
              refine hK.out _ _ (fun _ => ⟨(HEz).cell 0, (HEz).cell 1, (HEz).cell 2, (HEz).cell 3, (HEz).cell 4⟩) ?_
              clear hK K
              (try simp only [Act.put, List.setIfInBounds_toArray, List.set_cons_zero, List.set_cons_succ, List.getElem_toArray, List.getElem_cons_succ, List.getElem_cons_zero])
              refine upTo_done (by kernel_rfl) ?_
              go_wp2
              go_meet
              case rel => exact ⟨rfl, HRz, HBz⟩
        · skip
          go_simp
          refine hK.out _ _ (fun _ => ⟨((HEw4.out.alloc _)).cell 0, ((HEw4.out.alloc _)).cell 1, ((HEw4.out.alloc _)).cell 2, ((HEw4.out.alloc _)).cell 3, ((HEw4.out.alloc _)).cell 4⟩) ?_
          clear hK K hS0
          (try simp only [Act.put, List.setIfInBounds_toArray, List.set_cons_zero, List.set_cons_succ, List.getElem_toArray, List.getElem_cons_succ, List.getElem_cons_zero])
          obtain ⟨v14, HWv14⟩ := hex (w4.alloc (.cells [.int .u8 kk].toArray 5))
          have hwv14 : w4.alloc (.cells #[.int .u8 kk] 5) = v14 := HWv14.out.symm
          rw [hwv14]
          obtain ⟨cbk, HCbv14⟩ := hex w4.heap.size
          rw [← HCbv14.out]
          have HBv14 : Hid (Below w.heap.size w v14) := by show Below _ _ _; rw [HWv14.out]; exact HBw4.out.alloc HBw4.out.size _
          have HEv14 : Hid (Blk v14 eb 37 [.int .i64 0, .int .i64 sq, .int .i64 ts, .int .i64 kk, .int .i64 vl]) := by show Blk _ _ _ _; rw [HWv14.out]; exact HEw4.out.alloc _
          have HRv14 : Hid (Blk v14 rb 37 [.int .i64 0, .int .i64 0, .int .i64 0, .int .i64 0, .int .i64 0]) := by show Blk _ _ _ _; rw [HWv14.out]; exact HRw4.out.alloc _
          have HCv14 : Hid (Blk v14 cbk 5 [.int .u8 kk]) := by show Blk _ _ _ _; rw [HWv14.out, HCbv14.out]; exact blk_alloc _ _ _
          clear hwv14 HWv14 HCbv14
          have hS0 : (fun u : World => u.cell? ⟨eb, 0, none⟩ = some (.int .i64 0) ∧ u.cell? ⟨eb, 1, none⟩ = some (.int .i64 sq) ∧ u.cell? ⟨eb, 2, none⟩ = some (.int .i64 ts) ∧ u.cell? ⟨eb, 3, none⟩ = some (.int .i64 kk) ∧ u.cell? ⟨eb, 4, none⟩ = some (.int .i64 vl)) v14 := ⟨(HEv14.out).cell 0, (HEv14.out).cell 1, (HEv14.out).cell 2, (HEv14.out).cell 3, (HEv14.out).cell 4⟩
          refine upTo_two (i := 2) (j := 14) (by kernel_rfl) rfl rfl (fun K hK => ?_) (fun K hK => ?_)
          · skip
            go_simp
            refine (hiS _ HBv14.out).mono ?_
            rintro e v15 ⟨rfl, hbv15⟩
            have HBv15 : Hid (Below w.heap.size w v15) := HBv14.out.trans (hbv15.mono HBv14.out.size)
            have HEv15 : Hid (Blk v15 eb 37 [.int .i64 0, .int .i64 sq, .int .i64 ts, .int .i64 kk, .int .i64 vl]) := HEv14.out.below hbv15 HEv14.out.lt
            have HRv15 : Hid (Blk v15 rb 37 [.int .i64 0, .int .i64 0, .int .i64 0, .int .i64 0, .int .i64 0]) := HRv14.out.below hbv15 HRv14.out.lt
            have HCv15 : Hid (Blk v15 cbk 5 [.int .u8 kk]) := HCv14.out.below hbv15 HCv14.out.lt
            refine hK.out _ _ (fun _ => ⟨(HEv15.out).cell 0, (HEv15.out).cell 1, (HEv15.out).cell 2, (HEv15.out).cell 3, (HEv15.out).cell 4⟩) ?_
            clear hK K hS0
            (try simp only [Act.put, List.setIfInBounds_toArray, List.set_cons_zero, List.set_cons_succ, List.getElem_toArray, List.getElem_cons_succ, List.getElem_cons_zero])
            have hS0 : (fun u : World => u.cell? ⟨eb, 0, none⟩ = some (.int .i64 0) ∧ u.cell? ⟨eb, 1, none⟩ = some (.int .i64 sq) ∧ u.cell? ⟨eb, 2, none⟩ = some (.int .i64 ts) ∧ u.cell? ⟨eb, 3, none⟩ = some (.int .i64 kk) ∧ u.cell? ⟨eb, 4, none⟩ = some (.int .i64 vl)) v15 := ⟨(HEv15.out).cell 0, (HEv15.out).cell 1, (HEv15.out).cell 2, (HEv15.out).cell 3, (HEv15.out).cell 4⟩
            refine upTo_take2 (i := 3) (v := ?v70_3) rfl (by kernel_rfl) (by kernel_rfl) (by kernel_rfl) rfl (fun _ _ _ h => h) (by rfl) hS0 ?hy70_3 ?rest70_3
            case hy70_3 => (intro u hu; (try dsimp only at hu); go_simp; first | done | with_reducible rfl)
            (try simp only [Act.put, List.setIfInBounds_toArray, List.set_cons_zero, List.set_cons_succ, List.getElem_toArray, List.getElem_cons_succ, List.getElem_cons_zero])
            refine upTo_take2 (i := 4) (v := ?v70_4) rfl (by kernel_rfl) (by kernel_rfl) (by kernel_rfl) rfl (fun _ _ _ h => h) (by rfl) hS0 ?hy70_4 ?rest70_4
            case hy70_4 => (intro u hu; (try dsimp only at hu); go_simp; first | done | with_reducible rfl)
            (try simp only [Act.put, List.setIfInBounds_toArray, List.set_cons_zero, List.set_cons_succ, List.getElem_toArray, List.getElem_cons_succ, List.getElem_cons_zero])
            refine upTo_two (i := 7) (j := 14) (by kernel_rfl) rfl rfl (fun K hK => ?_) (fun K hK => ?_)
            · skip
              go_simp
              refine (hiT _ HBv15.out).mono ?_
              rintro e v16 ⟨rfl, hbv16⟩
              have HBv16 : Hid (Below w.heap.size w v16) := HBv15.out.trans (hbv16.mono HBv15.out.size)
              have HEv16 : Hid (Blk v16 eb 37 [.int .i64 0, .int .i64 sq, .int .i64 ts, .int .i64 kk, .int .i64 vl]) := HEv15.out.below hbv16 HEv15.out.lt
              have HRv16 : Hid (Blk v16 rb 37 [.int .i64 0, .int .i64 0, .int .i64 0, .int .i64 0, .int .i64 0]) := HRv15.out.below hbv16 HRv15.out.lt
              have HCv16 : Hid (Blk v16 cbk 5 [.int .u8 kk]) := HCv15.out.below hbv16 HCv15.out.lt
              refine hK.out _ _ (fun _ => ⟨(HEv16.out).cell 0, (HEv16.out).cell 1, (HEv16.out).cell 2, (HEv16.out).cell 3, (HEv16.out).cell 4⟩) ?_
              clear hK K hS0
              (try simp only [Act.put, List.setIfInBounds_toArray, List.set_cons_zero, List.set_cons_succ, List.getElem_toArray, List.getElem_cons_succ, List.getElem_cons_zero])
              have hS0 : (fun u : World => u.cell? ⟨eb, 0, none⟩ = some (.int .i64 0) ∧ u.cell? ⟨eb, 1, none⟩ = some (.int .i64 sq) ∧ u.cell? ⟨eb, 2, none⟩ = some (.int .i64 ts) ∧ u.cell? ⟨eb, 3, none⟩ = some (.int .i64 kk) ∧ u.cell? ⟨eb, 4, none⟩ = some (.int .i64 vl)) v16 := ⟨(HEv16.out).cell 0, (HEv16.out).cell 1, (HEv16.out).cell 2, (HEv16.out).cell 3, (HEv16.out).cell 4⟩
              refine upTo_take2 (i := 8) (v := ?v71_8) rfl (by kernel_rfl) (by kernel_rfl) (by kernel_rfl) rfl (fun _ _ _ h => h) (by rfl) hS0 ?hy71_8 ?rest71_8
              case hy71_8 => (intro u hu; (try dsimp only at hu); go_simp; first | done | with_reducible rfl)
              (try simp only [Act.put, List.setIfInBounds_toArray, List.set_cons_zero, List.set_cons_succ, List.getElem_toArray, List.getElem_cons_succ, List.getElem_cons_zero])
              refine upTo_take2 (i := 9) (v := ?v71_9) rfl (by kernel_rfl) (by kernel_rfl) (by kernel_rfl) rfl (fun _ _ _ h => h) (by rfl) hS0 ?hy71_9 ?rest71_9
              case hy71_9 => (intro u hu; (try dsimp only at hu); go_simp; first | done | with_reducible rfl)
              (try simp only [Act.put, List.setIfInBounds_toArray, List.set_cons_zero, List.set_cons_succ, List.getElem_toArray, List.getElem_cons_succ, List.getElem_cons_zero])
              refine upTo_two (i := 14) (j := 19) (by kernel_rfl) rfl rfl (fun K hK => ?_) (fun K hK => ?_)
              · skip
                have kc := conv_one HCv16.out HKb.out HK1.out
                go_simp
                refine hK.out _ _ (fun _ => ⟨(HEv16.out).cell 0, (HEv16.out).cell 1, (HEv16.out).cell 2, (HEv16.out).cell 3, (HEv16.out).cell 4⟩) ?_
                clear hK K kc
                (try simp only [Act.put, List.setIfInBounds_toArray, List.set_cons_zero, List.set_cons_succ, List.getElem_toArray, List.getElem_cons_succ, List.getElem_cons_zero])
                refine upTo_take2 (i := 15) (v := ?v72_15) rfl (by kernel_rfl) (by kernel_rfl) (by kernel_rfl) rfl (fun _ _ _ h => h) (by rfl) hS0 ?hy72_15 ?rest72_15
                case hy72_15 => (intro u hu; (try dsimp only at hu); go_simp; first | done | with_reducible rfl)
                (try simp only [Act.put, List.setIfInBounds_toArray, List.set_cons_zero, List.set_cons_succ, List.getElem_toArray, List.getElem_cons_succ, List.getElem_cons_zero])
                refine upTo_take2 (i := 16) (v := ?v72_16) rfl (by kernel_rfl) (by kernel_rfl) (by kernel_rfl) rfl (fun _ _ _ h => h) (by rfl) hS0 ?hy72_16 ?rest72_16
                case hy72_16 => (intro u hu; (try dsimp only at hu); go_simp; first | done | with_reducible rfl)
                (try simp only [Act.put, List.setIfInBounds_toArray, List.set_cons_zero, List.set_cons_succ, List.getElem_toArray, List.getElem_cons_succ, List.getElem_cons_zero])
                refine upTo_one (i := 19) (by kernel_rfl) rfl (fun K hK => ?_)
                go_simp
                refine (hiV _ HBv16.out).mono ?_
                rintro e v17 ⟨rfl, hbv17⟩
                have HBv17 : Hid (Below w.heap.size w v17) := HBv16.out.trans (hbv17.mono HBv16.out.size)
                have HEv17 : Hid (Blk v17 eb 37 [.int .i64 0, .int .i64 sq, .int .i64 ts, .int .i64 kk, .int .i64 vl]) := HEv16.out.below hbv17 HEv16.out.lt
                have HRv17 : Hid (Blk v17 rb 37 [.int .i64 0, .int .i64 0, .int .i64 0, .int .i64 0, .int .i64 0]) := HRv16.out.below hbv17 HRv16.out.lt
                refine hK.out _ _ (fun _ => ⟨(HEv17.out).cell 0, (HEv17.out).cell 1, (HEv17.out).cell 2, (HEv17.out).cell 3, (HEv17.out).cell 4⟩) ?_
                clear hK K hS0
                (try simp only [Act.put, List.setIfInBounds_toArray, List.set_cons_zero, List.set_cons_succ, List.getElem_toArray, List.getElem_cons_succ, List.getElem_cons_zero])
                have hS0 : (fun u : World => u.cell? ⟨eb, 0, none⟩ = some (.int .i64 0) ∧ u.cell? ⟨eb, 1, none⟩ = some (.int .i64 sq) ∧ u.cell? ⟨eb, 2, none⟩ = some (.int .i64 ts) ∧ u.cell? ⟨eb, 3, none⟩ = some (.int .i64 kk) ∧ u.cell? ⟨eb, 4, none⟩ = some (.int .i64 vl)) v17 := ⟨(HEv17.out).cell 0, (HEv17.out).cell 1, (HEv17.out).cell 2, (HEv17.out).cell 3, (HEv17.out).cell 4⟩
                refine upTo_take2 (i := 20) (v := ?v73_20) rfl (by kernel_rfl) (by kernel_rfl) (by kernel_rfl) rfl (fun _ _ _ h => h) (by rfl) hS0 ?hy73_20 ?rest73_20
                case hy73_20 => (intro u hu; (try dsimp only at hu); go_simp; first | done | with_reducible rfl)
                (try simp only [Act.put, List.setIfInBounds_toArray, List.set_cons_zero, List.set_cons_succ, List.getElem_toArray, List.getElem_cons_succ, List.getElem_cons_zero])
                refine upTo_take2 (i := 21) (v := ?v73_21) rfl (by kernel_rfl) (by kernel_rfl) (by kernel_rfl) rfl (fun _ _ _ h => h) (by rfl) hS0 ?hy73_21 ?rest73_21
                case hy73_21 => (intro u hu; (try dsimp only at hu); go_simp; first | done | with_reducible rfl)
                (try simp only [Act.put, List.setIfInBounds_toArray, List.set_cons_zero, List.set_cons_succ, List.getElem_toArray, List.getElem_cons_succ, List.getElem_cons_zero])
                refine upTo_one (i := 23) (by kernel_rfl) rfl (fun K hK => ?_)
                go_simp
                refine hK.out _ _ (fun _ => ⟨(HEv17.out).cell 0, (HEv17.out).cell 1, (HEv17.out).cell 2, (HEv17.out).cell 3, (HEv17.out).cell 4⟩) ?_
                clear hK K
                (try simp only [Act.put, List.setIfInBounds_toArray, List.set_cons_zero, List.set_cons_succ, List.getElem_toArray, List.getElem_cons_succ, List.getElem_cons_zero])
                have z0 := HRv17.out.cell 0
                have z1 := HRv17.out.cell 1
                have z2 := HRv17.out.cell 2
                have z3 := HRv17.out.cell 3
                have z4 := HRv17.out.cell 4
                have y0 := HRv17.out.frozen 0
                have y1 := HRv17.out.frozen 1
                have y2 := HRv17.out.frozen 2
                have y3 := HRv17.out.frozen 3
                have y4 := HRv17.out.frozen 4
                simp only [List.getElem?_cons_zero, List.getElem?_cons_succ] at z0 z1 z2 z3 z4
                refine upTo_one (i := 24) (by kernel_rfl) rfl (fun K hK => ?_)
                go_simp
                have HEz := HEv17.out.kept ((((((Kept.refl (fun k => k = rb) v17).setCell (b := rb) (o := 0) (fun _ => rfl) (.int .i64 0)).setCell (b := rb) (o := 1) (fun _ => rfl) (.int .i64 sq)).setCell (b := rb) (o := 2) (fun _ => rfl) (.int .i64 ts)).setCell (b := rb) (o := 3) (fun _ => rfl) (.int .i64 kk)).setCell (b := rb) (o := 4) (fun _ => rfl) (.int .i64 vl)) HNe.out
                have HRz := ((((HRv17.out.set 0 (.int .i64 0)).set 1 (.int .i64 sq)).set 2 (.int .i64 ts)).set 3 (.int .i64 kk)).set 4 (.int .i64 vl)
                have HBz := (((((HBv17.out.setCell (p := ⟨rb, 0, none⟩) HRw.out (.int .i64 0)).setCell (p := ⟨rb, 1, none⟩) HRw.out (.int .i64 sq)).setCell (p := ⟨rb, 2, none⟩) HRw.out (.int .i64 ts)).setCell (p := ⟨rb, 3, none⟩) HRw.out (.int .i64 kk)).setCell (p := ⟨rb, 4, none⟩) HRw.out (.int .i64 vl))
                refine hK.out _ _ (fun _ => ⟨(HEz).cell 0, (HEz).cell 1, (HEz).cell 2, (HEz).cell 3, (HEz).cell 4⟩) ?_
                clear hK K
                (try simp only [Act.put, List.setIfInBounds_toArray, List.set_cons_zero, List.set_cons_succ, List.getElem_toArray, List.getElem_cons_succ, List.getElem_cons_zero])
                refine upTo_done (by kernel_rfl) ?_
                go_wp2
                go_meet
                case rel => exact ⟨rfl, HRz, HBz⟩
              · skip
                go_simp
                refine (hiV _ HBv16.out).mono ?_
                rintro e v18 ⟨rfl, hbv18⟩
                have HBv18 : Hid (Below w.heap.size w v18) := HBv16.out.trans (hbv18.mono HBv16.out.size)
                have HEv18 : Hid (Blk v18 eb 37 [.int .i64 0, .int .i64 sq, .int .i64 ts, .int .i64 kk, .int .i64 vl]) := HEv16.out.below hbv18 HEv16.out.lt
                have HRv18 : Hid (Blk v18 rb 37 [.int .i64 0, .int .i64 0, .int .i64 0, .int .i64 0, .int .i64 0]) := HRv16.out.below hbv18 HRv16.out.lt
                have HCv18 : Hid (Blk v18 cbk 5 [.int .u8 kk]) := HCv16.out.below hbv18 HCv16.out.lt
                refine hK.out _ _ (fun _ => ⟨(HEv18.out).cell 0, (HEv18.out).cell 1, (HEv18.out).cell 2, (HEv18.out).cell 3, (HEv18.out).cell 4⟩) ?_
                clear hK K hS0
                (try simp only [Act.put, List.setIfInBounds_toArray, List.set_cons_zero, List.set_cons_succ, List.getElem_toArray, List.getElem_cons_succ, List.getElem_cons_zero])
                have hS0 : (fun u : World => u.cell? ⟨eb, 0, none⟩ = some (.int .i64 0) ∧ u.cell? ⟨eb, 1, none⟩ = some (.int .i64 sq) ∧ u.cell? ⟨eb, 2, none⟩ = some (.int .i64 ts) ∧ u.cell? ⟨eb, 3, none⟩ = some (.int .i64 kk) ∧ u.cell? ⟨eb, 4, none⟩ = some (.int .i64 vl)) v18 := ⟨(HEv18.out).cell 0, (HEv18.out).cell 1, (HEv18.out).cell 2, (HEv18.out).cell 3, (HEv18.out).cell 4⟩
                refine upTo_one (i := 14) (by kernel_rfl) rfl (fun K hK => ?_)
                have kc := conv_one HCv18.out HKb.out HK1.out
                go_simp
                refine hK.out _ _ (fun _ => ⟨(HEv18.out).cell 0, (HEv18.out).cell 1, (HEv18.out).cell 2, (HEv18.out).cell 3, (HEv18.out).cell 4⟩) ?_
                clear hK K kc
                (try simp only [Act.put, List.setIfInBounds_toArray, List.set_cons_zero, List.set_cons_succ, List.getElem_toArray, List.getElem_cons_succ, List.getElem_cons_zero])
                refine upTo_take2 (i := 15) (v := ?v74_15) rfl (by kernel_rfl) (by kernel_rfl) (by kernel_rfl) rfl (fun _ _ _ h => h) (by rfl) hS0 ?hy74_15 ?rest74_15
                case hy74_15 => (intro u hu; (try dsimp only at hu); go_simp; first | done | with_reducible rfl)
                (try simp only [Act.put, List.setIfInBounds_toArray, List.set_cons_zero, List.set_cons_succ, List.getElem_toArray, List.getElem_cons_succ, List.getElem_cons_zero])
                refine upTo_take2 (i := 16) (v := ?v74_16) rfl (by kernel_rfl) (by kernel_rfl) (by kernel_rfl) rfl (fun _ _ _ h => h) (by rfl) hS0 ?hy74_16 ?rest74_16
                case hy74_16 => (intro u hu; (try dsimp only at hu); go_simp; first | done | with_reducible rfl)
                (try simp only [Act.put, List.setIfInBounds_toArray, List.set_cons_zero, List.set_cons_succ, List.getElem_toArray, List.getElem_cons_succ, List.getElem_cons_zero])
                refine upTo_take2 (i := 20) (v := ?v74_20) rfl (by kernel_rfl) (by kernel_rfl) (by kernel_rfl) rfl (fun _ _ _ h => h) (by rfl) hS0 ?hy74_20 ?rest74_20
                case hy74_20 => (intro u hu; (try dsimp only at hu); go_simp; first | done | with_reducible rfl)
                (try simp only [Act.put, List.setIfInBounds_toArray, List.set_cons_zero, List.set_cons_succ, List.getElem_toArray, List.getElem_cons_succ, List.getElem_cons_zero])
                refine upTo_take2 (i := 21) (v := ?v74_21) rfl (by kernel_rfl) (by kernel_rfl) (by kernel_rfl) rfl (fun _ _ _ h => h) (by rfl) hS0 ?hy74_21 ?rest74_21
                case hy74_21 => (intro u hu; (try dsimp only at hu); go_simp; first | done | with_reducible rfl)
                (try simp only [Act.put, List.setIfInBounds_toArray, List.set_cons_zero, List.set_cons_succ, List.getElem_toArray, List.getElem_cons_succ, List.getElem_cons_zero])
                refine upTo_one (i := 23) (by kernel_rfl) rfl (fun K hK => ?_)
                go_simp
                refine hK.out _ _ (fun _ => ⟨(HEv18.out).cell 0, (HEv18.out).cell 1, (HEv18.out).cell 2, (HEv18.out).cell 3, (HEv18.out).cell 4⟩) ?_
                clear hK K
                (try simp only [Act.put, List.setIfInBounds_toArray, List.set_cons_zero, List.set_cons_succ, List.getElem_toArray, List.getElem_cons_succ, List.getElem_cons_zero])
                have z0 := HRv18.out.cell 0
                have z1 := HRv18.out.cell 1
                have z2 := HRv18.out.cell 2
                have z3 := HRv18.out.cell 3
                have z4 := HRv18.out.cell 4
                have y0 := HRv18.out.frozen 0
                have y1 := HRv18.out.frozen 1
                have y2 := HRv18.out.frozen 2
                have y3 := HRv18.out.frozen 3
                have y4 := HRv18.out.frozen 4
                simp only [List.getElem?_cons_zero, List.getElem?_cons_succ] at z0 z1 z2 z3 z4
                refine upTo_one (i := 24) (by kernel_rfl) rfl (fun K hK => ?_)
                go_simp
                have HEz := HEv18.out.kept ((((((Kept.refl (fun k => k = rb) v18).setCell (b := rb) (o := 0) (fun _ => rfl) (.int .i64 0)).setCell (b := rb) (o := 1) (fun _ => rfl) (.int .i64 sq)).setCell (b := rb) (o := 2) (fun _ => rfl) (.int .i64 ts)).setCell (b := rb) (o := 3) (fun _ => rfl) (.int .i64 kk)).setCell (b := rb) (o := 4) (fun _ => rfl) (.int .i64 vl)) HNe.out
                have HRz := ((((HRv18.out.set 0 (.int .i64 0)).set 1 (.int .i64 sq)).set 2 (.int .i64 ts)).set 3 (.int .i64 kk)).set 4 (.int .i64 vl)
                have HBz := (((((HBv18.out.setCell (p := ⟨rb, 0, none⟩) HRw.out (.int .i64 0)).setCell (p := ⟨rb, 1, none⟩) HRw.out (.int .i64 sq)).setCell (p := ⟨rb, 2, none⟩) HRw.out (.int .i64 ts)).setCell (p := ⟨rb, 3, none⟩) HRw.out (.int .i64 kk)).setCell (p := ⟨rb, 4, none⟩) HRw.out (.int .i64 vl))
                refine hK.out _ _ (fun _ => ⟨(HEz).cell 0, (HEz).cell 1, (HEz).cell 2, (HEz).cell 3, (HEz).cell 4⟩) ?_
                clear hK K
                (try simp only [Act.put, List.setIfInBounds_toArray, List.set_cons_zero, List.set_cons_succ, List.getElem_toArray, List.getElem_cons_succ, List.getElem_cons_zero])
                refine upTo_done (by kernel_rfl) ?_
                go_wp2
                go_meet
                case rel => exact ⟨rfl, HRz, HBz⟩
            · skip
              have kc := conv_one HCv15.out HKb.out HK1.out
              go_simp
              refine hK.out _ _ (fun _ => ⟨(HEv15.out).cell 0, (HEv15.out).cell 1, (HEv15.out).cell 2, (HEv15.out).cell 3, (HEv15.out).cell 4⟩) ?_
              clear hK K kc
              (try simp only [Act.put, List.setIfInBounds_toArray, List.set_cons_zero, List.set_cons_succ, List.getElem_toArray, List.getElem_cons_succ, List.getElem_cons_zero])
              refine upTo_one (i := 7) (by kernel_rfl) rfl (fun K hK => ?_)
              go_simp
              refine (hiT _ HBv15.out).mono ?_
              rintro e v19 ⟨rfl, hbv19⟩
              have HBv19 : Hid (Below w.heap.size w v19) := HBv15.out.trans (hbv19.mono HBv15.out.size)
              have HEv19 : Hid (Blk v19 eb 37 [.int .i64 0, .int .i64 sq, .int .i64 ts, .int .i64 kk, .int .i64 vl]) := HEv15.out.below hbv19 HEv15.out.lt
              have HRv19 : Hid (Blk v19 rb 37 [.int .i64 0, .int .i64 0, .int .i64 0, .int .i64 0, .int .i64 0]) := HRv15.out.below hbv19 HRv15.out.lt
              refine hK.out _ _ (fun _ => ⟨(HEv19.out).cell 0, (HEv19.out).cell 1, (HEv19.out).cell 2, (HEv19.out).cell 3, (HEv19.out).cell 4⟩) ?_
              clear hK K hS0
              (try simp only [Act.put, List.setIfInBounds_toArray, List.set_cons_zero, List.set_cons_succ, List.getElem_toArray, List.getElem_cons_succ, List.getElem_cons_zero])
              have hS0 : (fun u : World => u.cell? ⟨eb, 0, none⟩ = some (.int .i64 0) ∧ u.cell? ⟨eb, 1, none⟩ = some (.int .i64 sq) ∧ u.cell? ⟨eb, 2, none⟩ = some (.int .i64 ts) ∧ u.cell? ⟨eb, 3, none⟩ = some (.int .i64 kk) ∧ u.cell? ⟨eb, 4, none⟩ = some (.int .i64 vl)) v19 := ⟨(HEv19.out).cell 0, (HEv19.out).cell 1, (HEv19.out).cell 2, (HEv19.out).cell 3, (HEv19.out).cell 4⟩
              refine upTo_take2 (i := 8) (v := ?v75_8) rfl (by kernel_rfl) (by kernel_rfl) (by kernel_rfl) rfl (fun _ _ _ h => h) (by rfl) hS0 ?hy75_8 ?rest75_8
              case hy75_8 => (intro u hu; (try dsimp only at hu); go_simp; first | done | with_reducible rfl)
              (try simp only [Act.put, List.setIfInBounds_toArray, List.set_cons_zero, List.set_cons_succ, List.getElem_toArray, List.getElem_cons_succ, List.getElem_cons_zero])
              refine upTo_take2 (i := 9) (v := ?v75_9) rfl (by kernel_rfl) (by kernel_rfl) (by kernel_rfl) rfl (fun _ _ _ h => h) (by rfl) hS0 ?hy75_9 ?rest75_9
              case hy75_9 => (intro u hu; (try dsimp only at hu); go_simp; first | done | with_reducible rfl)
              (try simp only [Act.put, List.setIfInBounds_toArray, List.set_cons_zero, List.set_cons_succ, List.getElem_toArray, List.getElem_cons_succ, List.getElem_cons_zero])
              refine upTo_take2 (i := 15) (v := ?v75_15) rfl (by kernel_rfl) (by kernel_rfl) (by kernel_rfl) rfl (fun _ _ _ h => h) (by rfl) hS0 ?hy75_15 ?rest75_15
              case hy75_15 => (intro u hu; (try dsimp only at hu); go_simp; first | done | with_reducible rfl)
              (try simp only [Act.put, List.setIfInBounds_toArray, List.set_cons_zero, List.set_cons_succ, List.getElem_toArray, List.getElem_cons_succ, List.getElem_cons_zero])
              refine upTo_take2 (i := 16) (v := ?v75_16) rfl (by kernel_rfl) (by kernel_rfl) (by kernel_rfl) rfl (fun _ _ _ h => h) (by rfl) hS0 ?hy75_16 ?rest75_16
              case hy75_16 => (intro u hu; (try dsimp only at hu); go_simp; first | done | with_reducible rfl)
              (try simp only [Act.put, List.setIfInBounds_toArray, List.set_cons_zero, List.set_cons_succ, List.getElem_toArray, List.getElem_cons_succ, List.getElem_cons_zero])
              refine upTo_one (i := 19) (by kernel_rfl) rfl (fun K hK => ?_)
              go_simp
              refine (hiV _ HBv19.out).mono ?_
              rintro e v20 ⟨rfl, hbv20⟩
              have HBv20 : Hid (Below w.heap.size w v20) := HBv19.out.trans (hbv20.mono HBv19.out.size)
              have HEv20 : Hid (Blk v20 eb 37 [.int .i64 0, .int .i64 sq, .int .i64 ts, .int .i64 kk, .int .i64 vl]) := HEv19.out.below hbv20 HEv19.out.lt
              have HRv20 : Hid (Blk v20 rb 37 [.int .i64 0, .int .i64 0, .int .i64 0, .int .i64 0, .int .i64 0]) := HRv19.out.below hbv20 HRv19.out.lt
              refine hK.out _ _ (fun _ => ⟨(HEv20.out).cell 0, (HEv20.out).cell 1, (HEv20.out).cell 2, (HEv20.out).cell 3, (HEv20.out).cell 4⟩) ?_
              clear hK K hS0
              (try simp only [Act.put, List.setIfInBounds_toArray, List.set_cons_zero, List.set_cons_succ, List.getElem_toArray, List.getElem_cons_succ, List.getElem_cons_zero])
              have hS0 : (fun u : World => u.cell? ⟨eb, 0, none⟩ = some (.int .i64 0) ∧ u.cell? ⟨eb, 1, none⟩ = some (.int .i64 sq) ∧ u.cell? ⟨eb, 2, none⟩ = some (.int .i64 ts) ∧ u.cell? ⟨eb, 3, none⟩ = some (.int .i64 kk) ∧ u.cell? ⟨eb, 4, none⟩ = some (.int .i64 vl)) v20 := ⟨(HEv20.out).cell 0, (HEv20.out).cell 1, (HEv20.out).cell 2, (HEv20.out).cell 3, (HEv20.out).cell 4⟩
              refine upTo_take2 (i := 20) (v := ?v76_20) rfl (by kernel_rfl) (by kernel_rfl) (by kernel_rfl) rfl (fun _ _ _ h => h) (by rfl) hS0 ?hy76_20 ?rest76_20
              case hy76_20 => (intro u hu; (try dsimp only at hu); go_simp; first | done | with_reducible rfl)
              (try simp only [Act.put, List.setIfInBounds_toArray, List.set_cons_zero, List.set_cons_succ, List.getElem_toArray, List.getElem_cons_succ, List.getElem_cons_zero])
              refine upTo_take2 (i := 21) (v := ?v76_21) rfl (by kernel_rfl) (by kernel_rfl) (by kernel_rfl) rfl (fun _ _ _ h => h) (by rfl) hS0 ?hy76_21 ?rest76_21
              case hy76_21 => (intro u hu; (try dsimp only at hu); go_simp; first | done | with_reducible rfl)
              (try simp only [Act.put, List.setIfInBounds_toArray, List.set_cons_zero, List.set_cons_succ, List.getElem_toArray, List.getElem_cons_succ, List.getElem_cons_zero])
              refine upTo_one (i := 23) (by kernel_rfl) rfl (fun K hK => ?_)
              go_simp
              refine hK.out _ _ (fun _ => ⟨(HEv20.out).cell 0, (HEv20.out).cell 1, (HEv20.out).cell 2, (HEv20.out).cell 3, (HEv20.out).cell 4⟩) ?_
              clear hK K
              (try simp only [Act.put, List.setIfInBounds_toArray, List.set_cons_zero, List.set_cons_succ, List.getElem_toArray, List.getElem_cons_succ, List.getElem_cons_zero])
              have z0 := HRv20.out.cell 0
              have z1 := HRv20.out.cell 1
              have z2 := HRv20.out.cell 2
              have z3 := HRv20.out.cell 3
              have z4 := HRv20.out.cell 4
              have y0 := HRv20.out.frozen 0
              have y1 := HRv20.out.frozen 1
              have y2 := HRv20.out.frozen 2
              have y3 := HRv20.out.frozen 3
              have y4 := HRv20.out.frozen 4
              simp only [List.getElem?_cons_zero, List.getElem?_cons_succ] at z0 z1 z2 z3 z4
              refine upTo_one (i := 24) (by kernel_rfl) rfl (fun K hK => ?_)
              go_simp
              have HEz := HEv20.out.kept ((((((Kept.refl (fun k => k = rb) v20).setCell (b := rb) (o := 0) (fun _ => rfl) (.int .i64 0)).setCell (b := rb) (o := 1) (fun _ => rfl) (.int .i64 sq)).setCell (b := rb) (o := 2) (fun _ => rfl) (.int .i64 ts)).setCell (b := rb) (o := 3) (fun _ => rfl) (.int .i64 kk)).setCell (b := rb) (o := 4) (fun _ => rfl) (.int .i64 vl)) HNe.out
              have HRz := ((((HRv20.out.set 0 (.int .i64 0)).set 1 (.int .i64 sq)).set 2 (.int .i64 ts)).set 3 (.int .i64 kk)).set 4 (.int .i64 vl)
              have HBz := (((((HBv20.out.setCell (p := ⟨rb, 0, none⟩) HRw.out (.int .i64 0)).setCell (p := ⟨rb, 1, none⟩) HRw.out (.int .i64 sq)).setCell (p := ⟨rb, 2, none⟩) HRw.out (.int .i64 ts)).setCell (p := ⟨rb, 3, none⟩) HRw.out (.int .i64 kk)).setCell (p := ⟨rb, 4, none⟩) HRw.out (.int .i64 vl))
              refine hK.out _ _ (fun _ => ⟨(HEz).cell 0, (HEz).cell 1, (HEz).cell 2, (HEz).cell 3, (HEz).cell 4⟩) ?_
              clear hK K
              (try simp only [Act.put, List.setIfInBounds_toArray, List.set_cons_zero, List.set_cons_succ, List.getElem_toArray, List.getElem_cons_succ, List.getElem_cons_zero])
              refine upTo_done (by kernel_rfl) ?_
              go_wp2
              go_meet
              case rel => exact ⟨rfl, HRz, HBz⟩
          · skip
            have kc := conv_one HCv14.out HKb.out HK1.out
            go_simp
            refine hK.out _ _ (fun _ => ⟨(HEv14.out).cell 0, (HEv14.out).cell 1, (HEv14.out).cell 2, (HEv14.out).cell 3, (HEv14.out).cell 4⟩) ?_
            clear hK K kc
            (try simp only [Act.put, List.setIfInBounds_toArray, List.set_cons_zero, List.set_cons_succ, List.getElem_toArray, List.getElem_cons_succ, List.getElem_cons_zero])
            refine upTo_one (i := 2) (by kernel_rfl) rfl (fun K hK => ?_)
            go_simp
            refine (hiS _ HBv14.out).mono ?_
            rintro e v21 ⟨rfl, hbv21⟩
            have HBv21 : Hid (Below w.heap.size w v21) := HBv14.out.trans (hbv21.mono HBv14.out.size)
            have HEv21 : Hid (Blk v21 eb 37 [.int .i64 0, .int .i64 sq, .int .i64 ts, .int .i64 kk, .int .i64 vl]) := HEv14.out.below hbv21 HEv14.out.lt
            have HRv21 : Hid (Blk v21 rb 37 [.int .i64 0, .int .i64 0, .int .i64 0, .int .i64 0, .int .i64 0]) := HRv14.out.below hbv21 HRv14.out.lt
            refine hK.out _ _ (fun _ => ⟨(HEv21.out).cell 0, (HEv21.out).cell 1, (HEv21.out).cell 2, (HEv21.out).cell 3, (HEv21.out).cell 4⟩) ?_
            clear hK K hS0
            (try simp only [Act.put, List.setIfInBounds_toArray, List.set_cons_zero, List.set_cons_succ, List.getElem_toArray, List.getElem_cons_succ, List.getElem_cons_zero])
            have hS0 : (fun u : World => u.cell? ⟨eb, 0, none⟩ = some (.int .i64 0) ∧ u.cell? ⟨eb, 1, none⟩ = some (.int .i64 sq) ∧ u.cell? ⟨eb, 2, none⟩ = some (.int .i64 ts) ∧ u.cell? ⟨eb, 3, none⟩ = some (.int .i64 kk) ∧ u.cell? ⟨eb, 4, none⟩ = some (.int .i64 vl)) v21 := ⟨(HEv21.out).cell 0, (HEv21.out).cell 1, (HEv21.out).cell 2, (HEv21.out).cell 3, (HEv21.out).cell 4⟩
            refine upTo_take2 (i := 3) (v := ?v77_3) rfl (by kernel_rfl) (by kernel_rfl) (by kernel_rfl) rfl (fun _ _ _ h => h) (by rfl) hS0 ?hy77_3 ?rest77_3
            case hy77_3 => (intro u hu; (try dsimp only at hu); go_simp; first | done | with_reducible rfl)
            (try simp only [Act.put, List.setIfInBounds_toArray, List.set_cons_zero, List.set_cons_succ, List.getElem_toArray, List.getElem_cons_succ, List.getElem_cons_zero])
            refine upTo_take2 (i := 4) (v := ?v77_4) rfl (by kernel_rfl) (by kernel_rfl) (by kernel_rfl) rfl (fun _ _ _ h => h) (by rfl) hS0 ?hy77_4 ?rest77_4
            case hy77_4 => (intro u hu; (try dsimp only at hu); go_simp; first | done | with_reducible rfl)
            (try simp only [Act.put, List.setIfInBounds_toArray, List.set_cons_zero, List.set_cons_succ, List.getElem_toArray, List.getElem_cons_succ, List.getElem_cons_zero])
            refine upTo_one (i := 7) (by kernel_rfl) rfl (fun K hK => ?_)
            go_simp
            refine (hiT _ HBv21.out).mono ?_
            rintro e v22 ⟨rfl, hbv22⟩
            have HBv22 : Hid (Below w.heap.size w v22) := HBv21.out.trans (hbv22.mono HBv21.out.size)
            have HEv22 : Hid (Blk v22 eb 37 [.int .i64 0, .int .i64 sq, .int .i64 ts, .int .i64 kk, .int .i64 vl]) := HEv21.out.below hbv22 HEv21.out.lt
            have HRv22 : Hid (Blk v22 rb 37 [.int .i64 0, .int .i64 0, .int .i64 0, .int .i64 0, .int .i64 0]) := HRv21.out.below hbv22 HRv21.out.lt
            refine hK.out _ _ (fun _ => ⟨(HEv22.out).cell 0, (HEv22.out).cell 1, (HEv22.out).cell 2, (HEv22.out).cell 3, (HEv22.out).cell 4⟩) ?_
            clear hK K hS0
            (try simp only [Act.put, List.setIfInBounds_toArray, List.set_cons_zero, List.set_cons_succ, List.getElem_toArray, List.getElem_cons_succ, List.getElem_cons_zero])
            have hS0 : (fun u : World => u.cell? ⟨eb, 0, none⟩ = some (.int .i64 0) ∧ u.cell? ⟨eb, 1, none⟩ = some (.int .i64 sq) ∧ u.cell? ⟨eb, 2, none⟩ = some (.int .i64 ts) ∧ u.cell? ⟨eb, 3, none⟩ = some (.int .i64 kk) ∧ u.cell? ⟨eb, 4, none⟩ = some (.int .i64 vl)) v22 := ⟨(HEv22.out).cell 0, (HEv22.out).cell 1, (HEv22.out).cell 2, (HEv22.out).cell 3, (HEv22.out).cell 4⟩
            refine upTo_take2 (i := 8) (v := ?v78_8) rfl (by kernel_rfl) (by kernel_rfl) (by kernel_rfl) rfl (fun _ _ _ h => h) (by rfl) hS0 ?hy78_8 ?rest78_8
            case hy78_8 => (intro u hu; (try dsimp only at hu); go_simp; first | done | with_reducible rfl)
            (try simp only [Act.put, List.setIfInBounds_toArray, List.set_cons_zero, List.set_cons_succ, List.getElem_toArray, List.getElem_cons_succ, List.getElem_cons_zero])
            refine upTo_take2 (i := 9) (v := ?v78_9) rfl (by kernel_rfl) (by kernel_rfl) (by kernel_rfl) rfl (fun _ _ _ h => h) (by rfl) hS0 ?hy78_9 ?rest78_9
            case hy78_9 => (intro u hu; (try dsimp only at hu); go_simp; first | done | with_reducible rfl)
            (try simp only [Act.put, List.setIfInBounds_toArray, List.set_cons_zero, List.set_cons_succ, List.getElem_toArray, List.getElem_cons_succ, List.getElem_cons_zero])
            refine upTo_take2 (i := 15) (v := ?v78_15) rfl (by kernel_rfl) (by kernel_rfl) (by kernel_rfl) rfl (fun _ _ _ h => h) (by rfl) hS0 ?hy78_15 ?rest78_15
            case hy78_15 => (intro u hu; (try dsimp only at hu); go_simp; first | done | with_reducible rfl)
            (try simp only [Act.put, List.setIfInBounds_toArray, List.set_cons_zero, List.set_cons_succ, List.getElem_toArray, List.getElem_cons_succ, List.getElem_cons_zero])
            refine upTo_take2 (i := 16) (v := ?v78_16) rfl (by kernel_rfl) (by kernel_rfl) (by kernel_rfl) rfl (fun _ _ _ h => h) (by rfl) hS0 ?hy78_16 ?rest78_16
            case hy78_16 => (intro u hu; (try dsimp only at hu); go_simp; first | done | with_reducible rfl)
            (try simp only [Act.put, List.setIfInBounds_toArray, List.set_cons_zero, List.set_cons_succ, List.getElem_toArray, List.getElem_cons_succ, List.getElem_cons_zero])
            refine upTo_one (i := 19) (by kernel_rfl) rfl (fun K hK => ?_)
            go_simp
            refine (hiV _ HBv22.out).mono ?_
            rintro e v23 ⟨rfl, hbv23⟩
            have HBv23 : Hid (Below w.heap.size w v23) := HBv22.out.trans (hbv23.mono HBv22.out.size)
            have HEv23 : Hid (Blk v23 eb 37 [.int .i64 0, .int .i64 sq, .int .i64 ts, .int .i64 kk, .int .i64 vl]) := HEv22.out.below hbv23 HEv22.out.lt
            have HRv23 : Hid (Blk v23 rb 37 [.int .i64 0, .int .i64 0, .int .i64 0, .int .i64 0, .int .i64 0]) := HRv22.out.below hbv23 HRv22.out.lt
            refine hK.out _ _ (fun _ => ⟨(HEv23.out).cell 0, (HEv23.out).cell 1, (HEv23.out).cell 2, (HEv23.out).cell 3, (HEv23.out).cell 4⟩) ?_
            clear hK K hS0
            (try simp only [Act.put, List.setIfInBounds_toArray, List.set_cons_zero, List.set_cons_succ, List.getElem_toArray, List.getElem_cons_succ, List.getElem_cons_zero])
            have hS0 : (fun u : World => u.cell? ⟨eb, 0, none⟩ = some (.int .i64 0) ∧ u.cell? ⟨eb, 1, none⟩ = some (.int .i64 sq) ∧ u.cell? ⟨eb, 2, none⟩ = some (.int .i64 ts) ∧ u.cell? ⟨eb, 3, none⟩ = some (.int .i64 kk) ∧ u.cell? ⟨eb, 4, none⟩ = some (.int .i64 vl)) v23 := ⟨(HEv23.out).cell 0, (HEv23.out).cell 1, (HEv23.out).cell 2, (HEv23.out).cell 3, (HEv23.out).cell 4⟩
            refine upTo_take2 (i := 20) (v := ?v79_20) rfl (by kernel_rfl) (by kernel_rfl) (by kernel_rfl) rfl (fun _ _ _ h => h) (by rfl) hS0 ?hy79_20 ?rest79_20
            case hy79_20 => (intro u hu; (try dsimp only at hu); go_simp; first | done | with_reducible rfl)
            (try simp only [Act.put, List.setIfInBounds_toArray, List.set_cons_zero, List.set_cons_succ, List.getElem_toArray, List.getElem_cons_succ, List.getElem_cons_zero])
            refine upTo_take2 (i := 21) (v := ?v79_21) rfl (by kernel_rfl) (by kernel_rfl) (by kernel_rfl) rfl (fun _ _ _ h => h) (by rfl) hS0 ?hy79_21 ?rest79_21
            case hy79_21 => (intro u hu; (try dsimp only at hu); go_simp; first | done | with_reducible rfl)
            (try simp only [Act.put, List.setIfInBounds_toArray, List.set_cons_zero, List.set_cons_succ, List.getElem_toArray, List.getElem_cons_succ, List.getElem_cons_zero])
            refine upTo_one (i := 23) (by kernel_rfl) rfl (fun K hK => ?_)
            go_simp
            refine hK.out _ _ (fun _ => ⟨(HEv23.out).cell 0, (HEv23.out).cell 1, (HEv23.out).cell 2, (HEv23.out).cell 3, (HEv23.out).cell 4⟩) ?_
            clear hK K
            (try simp only [Act.put, List.setIfInBounds_toArray, List.set_cons_zero, List.set_cons_succ, List.getElem_toArray, List.getElem_cons_succ, List.getElem_cons_zero])
            have z0 := HRv23.out.cell 0
            have z1 := HRv23.out.cell 1
            have z2 := HRv23.out.cell 2
            have z3 := HRv23.out.cell 3
            have z4 := HRv23.out.cell 4
            have y0 := HRv23.out.frozen 0
            have y1 := HRv23.out.frozen 1
            have y2 := HRv23.out.frozen 2
            have y3 := HRv23.out.frozen 3
            have y4 := HRv23.out.frozen 4
            simp only [List.getElem?_cons_zero, List.getElem?_cons_succ] at z0 z1 z2 z3 z4
            refine upTo_one (i := 24) (by kernel_rfl) rfl (fun K hK => ?_)
            go_simp
            have HEz := HEv23.out.kept ((((((Kept.refl (fun k => k = rb) v23).setCell (b := rb) (o := 0) (fun _ => rfl) (.int .i64 0)).setCell (b := rb) (o := 1) (fun _ => rfl) (.int .i64 sq)).setCell (b := rb) (o := 2) (fun _ => rfl) (.int .i64 ts)).setCell (b := rb) (o := 3) (fun _ => rfl) (.int .i64 kk)).setCell (b := rb) (o := 4) (fun _ => rfl) (.int .i64 vl)) HNe.out
            have HRz := ((((HRv23.out.set 0 (.int .i64 0)).set 1 (.int .i64 sq)).set 2 (.int .i64 ts)).set 3 (.int .i64 kk)).set 4 (.int .i64 vl)
            have HBz := (((((HBv23.out.setCell (p := ⟨rb, 0, none⟩) HRw.out (.int .i64 0)).setCell (p := ⟨rb, 1, none⟩) HRw.out (.int .i64 sq)).setCell (p := ⟨rb, 2, none⟩) HRw.out (.int .i64 ts)).setCell (p := ⟨rb, 3, none⟩) HRw.out (.int .i64 kk)).setCell (p := ⟨rb, 4, none⟩) HRw.out (.int .i64 vl))
            refine hK.out _ _ (fun _ => ⟨(HEz).cell 0, (HEz).cell 1, (HEz).cell 2, (HEz).cell 3, (HEz).cell 4⟩) ?_
            clear hK K
            (try simp only [Act.put, List.setIfInBounds_toArray, List.set_cons_zero, List.set_cons_succ, List.getElem_toArray, List.getElem_cons_succ, List.getElem_cons_zero])
            refine upTo_done (by kernel_rfl) ?_
            go_wp2
            go_meet
            case rel => exact ⟨rfl, HRz, HBz⟩
      case rest =>
        obtain ⟨rfl, hR, hB⟩ := hcut
        have z0 := hR.cell 0
        have z1 := hR.cell 1
        have z2 := hR.cell 2
        have z3 := hR.cell 3
        have z4 := hR.cell 4
        simp only [List.getElem?_cons_zero, List.getElem?_cons_succ] at z0 z1 z2 z3 z4
        go_wp2
        refine bodyPost_ret (v := .tuple #[.string ⟨(spLine a ++ [10]).toArray⟩, .agg #[.int .i64 (spEv a).src, .int .i64 (spEv a).seq, .int .i64 (spEv a).ts, .int .i64 (spEv a).kind, .int .i64 (spEv a).val]]) (by rw [HF.out, HEE.out]; simp [results, Tryd.results38, go_sem, z0, z1, z2, z3, z4]) rfl ⟨rfl, hB⟩
end Go.Proofs.YtghcololkgeoeaaDoor
