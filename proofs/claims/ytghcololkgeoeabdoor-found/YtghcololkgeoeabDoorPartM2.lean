import Derived.Test.YtghcololkgeoeabDoorPartM1
namespace Go.Proofs.YtghcololkgeoeabDoor
open Go.RowKit
set_option linter.unusedVariables false
set_option linter.unusedSimpArgs false

/-! ### numbers as texts, read again -/
theorem itoa_len {n : Int} {k : Nat} (h : n.natAbs < 10 ^ (k + 1)) : (Lib.itoa n).length ≤ k + 2 ∧ (0 ≤ n → (Lib.itoa n).length ≤ k + 1) := by
  have := dec_len k n.natAbs h
  unfold Lib.itoa
  split
  · refine ⟨by simp only [List.length_cons]; omega, fun h => by omega⟩
  · rename_i h0
    rw [show n.toNat = n.natAbs by omega]
    exact ⟨by omega, fun _ => this⟩
theorem digLen_text {D B : List UInt8} (hD : ∀ c ∈ D, isDig c = true) (hB : ∀ c, B.head? = some c → isDig c = false) (hl : D.length ≤ 13) : digLen (D ++ B) = D.length := by
  unfold digLen
  rw [List.takeWhile_append_of_pos hD]
  have : B.takeWhile isDig = [] := by
    cases B with
    | nil => rfl
    | cons b B => rw [List.takeWhile_cons, if_neg (by rw [hB b rfl]; decide)]
  rw [this, List.append_nil]
  omega
theorem dig_not45 {c : UInt8} (h : isDig c = true) : (c.toNat : Int) ≠ 45 := by simp only [isDig, decide_eq_true_eq] at h; omega
/-- a number that stands in a line -/
theorem numAt_text {A B : List UInt8} {n : Int} (hn : n.natAbs < 10 ^ 13) (hB : ∀ c, B.head? = some c → isDig c = false) : numAt (A ++ (Lib.itoa n ++ B)) A.length = (n, (A.length : Int) + (Lib.itoa n).length) := by
  obtain ⟨d1, d2, d3⟩ := dec_digs n.natAbs
  have d4 := dec_len 12 n.natAbs hn
  unfold numAt
  by_cases h : n < 0
  · have e : Lib.itoa n = 45 :: Lib.decDigits n.natAbs := by unfold Lib.itoa; rw [if_pos h]
    have hneg : (decide (A.length < (A ++ (Lib.itoa n ++ B)).length) && decide (byteAt (A ++ (Lib.itoa n ++ B)) A.length = 45)) = true := by
      rw [e]
      simp [byteAt]
    have hd : (A ++ (Lib.itoa n ++ B)).drop (A.length + 1) = Lib.decDigits n.natAbs ++ B := by
      rw [e, show A ++ (45 :: Lib.decDigits n.natAbs ++ B) = (A ++ [45]) ++ (Lib.decDigits n.natAbs ++ B) by simp, List.drop_append_of_le_length (by simp), List.drop_eq_nil_of_le (by simp)]
      simp
    simp only [hneg, if_true, hd, digLen_text d1 hB d4]
    rw [if_neg (by omega), List.take_append_of_le_length (Nat.le_refl _), List.take_of_length_le (Nat.le_refl _), d2, e]
    simp only [List.length_cons, Prod.mk.injEq]
    omega
  · have e : Lib.itoa n = Lib.decDigits n.natAbs := by unfold Lib.itoa; rw [if_neg h, show n.toNat = n.natAbs by omega]
    have hneg : (decide (A.length < (A ++ (Lib.itoa n ++ B)).length) && decide (byteAt (A ++ (Lib.itoa n ++ B)) A.length = 45)) = false := by
      rw [e]
      cases hdd : Lib.decDigits n.natAbs with
      | nil => rw [hdd] at d3; simp at d3
      | cons c r =>
        have hc := dig_not45 (d1 c (by rw [hdd]; simp))
        simp only [Bool.and_eq_false_iff, decide_eq_false_iff_not]
        right
        simp [byteAt]
        exact_mod_cast hc
    have hd : (A ++ (Lib.itoa n ++ B)).drop A.length = Lib.decDigits n.natAbs ++ B := by rw [e]; simp
    simp only [hneg, Bool.false_eq_true, if_false, hd, digLen_text d1 hB d4]
    rw [if_neg (by omega), List.take_append_of_le_length (Nat.le_refl _), List.take_of_length_le (Nat.le_refl _), d2, e]
    simp only [Prod.mk.injEq]
    exact ⟨by omega, trivial⟩
theorem blankAt_text {A B : List UInt8} : blankAt (A ++ 32 :: B) A.length = (A.length : Int) + 1 := by
  unfold blankAt
  rw [if_neg]
  simp [byteAt]
  omega
def punctLine (ts : Int) : List UInt8 := [80, 32] ++ Lib.itoa ts
def evLine (E : Ev) : List UInt8 := [69, 32] ++ Lib.itoa E.seq ++ [32] ++ Lib.itoa E.ts ++ [32] ++ [UInt8.ofNat E.kind.toNat] ++ [32] ++ Lib.itoa E.val
theorem punctOf_text {ts : Int} (h : ts.natAbs < 10 ^ 13) : punctOf (punctLine ts) = (ts, true) := by
  have hn := numAt_text (A := [80, 32]) (B := []) (n := ts) h (by simp)
  rw [List.append_nil] at hn
  unfold punctOf punctLine
  rw [if_pos (by simp), show (2 : Nat) = ([80, 32] : List UInt8).length from rfl, hn]
  simp
  omega
theorem dig32 : isDig 32 = false := by decide
structure EvOk (E : Ev) : Prop where
  src : E.src = 0
  seq : 0 ≤ E.seq ∧ E.seq < 1000000
  ts : -1099511627776 ≤ E.ts ∧ E.ts ≤ 1099511627776
  kind : 65 ≤ E.kind ∧ E.kind ≤ 90
  val : -1099511627776 ≤ E.val ∧ E.val ≤ 1099511627776
theorem evLine_spec {E : Ev} (h : EvOk E) : isEv (evLine E) = true ∧ evOf (evLine E) = E ∧ (evLine E).length ≤ 40 := by
  have hsq : E.seq.natAbs < 10 ^ 13 := by have := h.seq; omega
  have hts : E.ts.natAbs < 10 ^ 13 := by have := h.ts; omega
  have hvl : E.val.natAbs < 10 ^ 13 := by have := h.val; omega
  have hk : (UInt8.ofNat E.kind.toNat).toNat = E.kind.toNat := by rw [UInt8.toNat_ofNat']; have := h.kind; omega
  obtain ⟨S, hS⟩ : ∃ S, S = Lib.itoa E.seq := ⟨_, rfl⟩
  obtain ⟨T, hT⟩ : ∃ S, S = Lib.itoa E.ts := ⟨_, rfl⟩
  obtain ⟨V, hV⟩ : ∃ S, S = Lib.itoa E.val := ⟨_, rfl⟩
  obtain ⟨k, hkk⟩ : ∃ k, k = UInt8.ofNat E.kind.toNat := ⟨_, rfl⟩
  have hl : evLine E = [69, 32] ++ S ++ [32] ++ T ++ [32] ++ [k] ++ [32] ++ V := by unfold evLine; rw [hS, hT, hV, hkk]
  have n1 : numAt (evLine E) 2 = (E.seq, 2 + (S.length : Int)) := by
    have := numAt_text (A := [69, 32]) (B := [32] ++ T ++ [32] ++ [k] ++ [32] ++ V) (n := E.seq) hsq (by intro c hc; simp at hc; rw [← hc]; exact dig32)
    rw [← hS] at this
    rw [hl]
    simpa [List.append_assoc] using this
  have p1 : evP1 (evLine E) = ((2 + S.length + 1 : Nat) : Int) := by
    unfold evP1
    rw [n1]
    have := blankAt_text (A := [69, 32] ++ S) (B := T ++ [32] ++ [k] ++ [32] ++ V)
    have e1 : (([69, 32] ++ S).length : Int) = 2 + (S.length : Int) := by simp; omega
    rw [e1] at this
    rw [hl]
    simp only [List.append_assoc, List.cons_append, List.nil_append] at this ⊢
    rw [this]; omega
  have n2 : numAt (evLine E) (2 + S.length + 1) = (E.ts, ((2 + S.length + 1 : Nat) : Int) + (T.length : Int)) := by
    have := numAt_text (A := [69, 32] ++ S ++ [32]) (B := [32] ++ [k] ++ [32] ++ V) (n := E.ts) hts (by intro c hc; simp at hc; rw [← hc]; exact dig32)
    have e1 : ([69, 32] ++ S ++ [32]).length = 2 + S.length + 1 := by simp; omega
    rw [← hT, e1] at this
    rw [hl]
    simpa [List.append_assoc] using this
  have p2 : evP2 (evLine E) = ((2 + S.length + 1 + T.length + 1 : Nat) : Int) := by
    unfold evP2
    rw [p1, Int.toNat_natCast, n2]
    have := blankAt_text (A := [69, 32] ++ S ++ [32] ++ T) (B := [k] ++ [32] ++ V)
    have e1 : (([69, 32] ++ S ++ [32] ++ T).length : Int) = ((2 + S.length + 1 : Nat) : Int) + (T.length : Int) := by simp; omega
    rw [e1] at this
    rw [hl]
    simp only [List.append_assoc, List.cons_append, List.nil_append] at this ⊢
    rw [this]; omega
  have b2 : byteAt (evLine E) (2 + S.length + 1 + T.length + 1) = E.kind := by
    rw [hl]
    have e1 : ([69, 32] ++ S ++ [32] ++ T ++ [32]).length = 2 + S.length + 1 + T.length + 1 := by simp; omega
    have e2 : [69, 32] ++ S ++ [32] ++ T ++ [32] ++ [k] ++ [32] ++ V = ([69, 32] ++ S ++ [32] ++ T ++ [32]) ++ (k :: ([32] ++ V)) := by simp
    rw [e2]
    unfold byteAt
    rw [← e1, List.getElem?_append_right (Nat.le_refl _)]
    simp only [Nat.sub_self, List.getElem?_cons_zero, Option.getD_some]
    rw [hkk, hk]; have := h.kind; omega
  have p3 : evP3 (evLine E) = ((2 + S.length + 1 + T.length + 1 + 1 + 1 : Nat) : Int) := by
    unfold evP3
    rw [p2]
    have := blankAt_text (A := [69, 32] ++ S ++ [32] ++ T ++ [32] ++ [k]) (B := V)
    have e1 : (([69, 32] ++ S ++ [32] ++ T ++ [32] ++ [k]).length : Int) = ((2 + S.length + 1 + T.length + 1 : Nat) : Int) + 1 := by simp; omega
    rw [e1] at this
    rw [hl]
    simp only [List.append_assoc, List.cons_append, List.nil_append] at this ⊢
    rw [this]; omega
  have n3 : numAt (evLine E) (2 + S.length + 1 + T.length + 1 + 1 + 1) = (E.val, ((2 + S.length + 1 + T.length + 1 + 1 + 1 : Nat) : Int) + (V.length : Int)) := by
    have := numAt_text (A := [69, 32] ++ S ++ [32] ++ T ++ [32] ++ [k] ++ [32]) (B := []) (n := E.val) hvl (by simp)
    have e1 : ([69, 32] ++ S ++ [32] ++ T ++ [32] ++ [k] ++ [32]).length = 2 + S.length + 1 + T.length + 1 + 1 + 1 := by simp; omega
    rw [← hV, e1, List.append_nil] at this
    rw [hl]
    exact this
  have hlen : (evLine E).length = 2 + S.length + 1 + T.length + 1 + 1 + 1 + V.length := by rw [hl]; simp; omega
  have lS : S.length ≤ 6 := by rw [hS]; exact (itoa_len (n := E.seq) (k := 5) (by have := h.seq; omega)).2 h.seq.1
  have lT : T.length ≤ 14 := by rw [hT]; exact (itoa_len (n := E.ts) (k := 12) hts).1
  have lV : V.length ≤ 14 := by rw [hV]; exact (itoa_len (n := E.val) (k := 12) hvl).1
  refine ⟨?_, ?_, by omega⟩
  · unfold isEv
    rw [p1, p2, p3, Int.toNat_natCast, Int.toNat_natCast, b2, n3, hlen]
    have := h.kind
    rw [show (evLine E).take 2 == [69, 32] from by rw [hl]; simp]
    simp
    omega
  · unfold evOf
    rw [p1, p2, p3, Int.toNat_natCast, Int.toNat_natCast, Int.toNat_natCast, n1, n2, n3, b2]
    have := h.src
    cases E
    simp only [Ev.mk.injEq] at *
    simp_all
theorem punct_len {ts : Int} (h : -1099511627776 ≤ ts ∧ ts ≤ 1099511627776) : (punctLine ts).length ≤ 40 := by
  unfold punctLine
  have := (itoa_len (n := ts) (k := 12) (by omega)).1
  simp only [List.length_append, List.length_cons, List.length_nil]
  omega
theorem read_punct {ts : Int} (h : -1099511627776 ≤ ts ∧ ts ≤ 1099511627776) : readOf (punctLine ts) = ⟨2, zE, ts⟩ := by
  have e := punctOf_text (ts := ts) (by omega)
  have := readOf_punct (l := punctLine ts) (punct_len h) (by rw [e])
  rw [this, e]
theorem read_ev {E : Ev} (h : EvOk E) : readOf (evLine E) = ⟨1, E, 0⟩ := by
  obtain ⟨h1, h2, h3⟩ := evLine_spec h
  rw [readOf_ev h3 h1, h2]
end Go.Proofs.YtghcololkgeoeabDoor
namespace Go.Proofs.YtghcololkgeoeabDoor
open Go.RowKit
set_option linter.unusedVariables false
set_option linter.unusedSimpArgs false
attribute [local go_sem ↓] Go.wp_at_zero Go.wp_at_succ

def spTs (a : ActR) : Int := pk a.E.ts 2199023255553 - 1099511627776
def spEv (a : ActR) : Ev := if pk a.d 4 = 0 then ⟨0, 0, spTs a, 0, 0⟩ else ⟨0, pk a.E.seq 1000000, spTs a, 65 + pk a.E.kind 26, pk a.E.val 2199023255553 - 1099511627776⟩
def spLine (a : ActR) : List UInt8 := if pk a.d 4 = 0 then punctLine (spTs a) else evLine (spEv a)
structure EvI (E : Ev) : Prop where
  seq : I64 E.seq
  ts : I64 E.ts
  kind : I64 E.kind
  val : I64 E.val
theorem spTs_range (a : ActR) : -1099511627776 ≤ spTs a ∧ spTs a ≤ 1099511627776 := by
  have := pk_range (c := a.E.ts) (n := 2199023255553) (by omega)
  unfold spTs; omega
theorem spEv_ok {a : ActR} (h : ¬ pk a.d 4 = 0) : EvOk (spEv a) := by
  have h1 := pk_range (c := a.E.seq) (n := 1000000) (by omega)
  have h2 := pk_range (c := a.E.kind) (n := 26) (by omega)
  have h3 := pk_range (c := a.E.val) (n := 2199023255553) (by omega)
  have h4 := spTs_range a
  unfold spEv
  rw [if_neg h]
  exact ⟨rfl, by simp only; omega, h4, by simp only; omega, by simp only; omega⟩
theorem conv_one {w : World} {g : Nat} {kk : Int} {kb : UInt8} {K1 : ByteArray} (h : Blk w g 5 [.int .u8 kk]) (hk : (kb.toNat : Int) = kk ∧ kb = UInt8.ofNat kk.toNat) (hK : K1 = ⟨#[kb]⟩) : (convert 90 9 (.slice (some ⟨g, 0, none⟩) 1 1)).run Tryd.prog w = .ok (.string K1) w := by
  have hr : Row w 5 1 (some ⟨g, 0, none⟩) [kb].length 1 (bytesV [kb]) := by
    refine ⟨rfl, Or.inr ⟨g, 1, _, rfl, Nat.zero_le _, h, Nat.le_refl _, by unfold maxLen; omega, rfl, ?_⟩⟩
    simp [bytesV, hk.1]
  have := conv_line hr
  rw [hK]
  exact this
end Go.Proofs.YtghcololkgeoeabDoor
