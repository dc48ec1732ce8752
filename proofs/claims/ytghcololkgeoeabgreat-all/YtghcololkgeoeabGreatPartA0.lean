import Derived.Below
import Derived.OrdersHeld
import Derived.Deep.RegionHeld3
import Derived.Deep.AppendLies
namespace Go.Proofs.YtghcololkgeoeabGreat
open Go.RowKit
set_option linter.unusedVariables false
set_option linter.unusedSimpArgs false

structure Rd where
  a : Int
  br : Int
  d : Int
  sts : List (Int × Int)
  same : Bool
  v : Int
def Rd.step (r : Rd) (c : Int) : Option Rd := if (65 ≤ c ∧ c ≤ 90) ∧ r.sts.length < 3 then some { r with a := 1, br := 0, sts := r.sts ++ [(c, r.br)] } else none
def Rd.digit (r : Rd) (c : Int) : Option Rd :=
  if 48 ≤ c ∧ c ≤ 57 ∧ r.d < 13 ∧ 10 * r.v + (c - 48) ≤ 1099511627776 then some { r with a := 6, d := r.d + 1, v := 10 * r.v + (c - 48) } else none
def Rd.behind (r : Rd) (c : Int) : Option Rd :=
  if c = 61 then some { r with a := 4, same := true } else if c = 64 then some { r with a := 5 } else if c = 33 then (if r.sts.length < 3 then some { r with a := 2 } else none) else r.step c
def Rd.take (r : Rd) (c : Int) : Option Rd :=
  if r.a = 0 ∨ r.a = 3 then r.step c
  else if r.a = 1 then r.behind c
  else if r.a = 2 then (if 65 ≤ c ∧ c ≤ 90 then some { r with a := 3, br := c } else none)
  else if r.a = 4 then (if c = 64 then some { r with a := 5 } else none)
  else r.digit c

def Rd.ok (r : Rd) : Prop := r.sts.length ≤ 3 ∧ 0 ≤ r.d ∧ r.d ≤ 13 ∧ 0 ≤ r.v ∧ r.v ≤ 1099511627776
theorem Rd.take_ok {r r' : Rd} {c : Int} (h : r.ok) (ht : r.take c = some r') : r'.ok := by
  unfold Rd.ok at *
  unfold Rd.take Rd.behind Rd.step Rd.digit at ht
  split at ht <;> (try split at ht) <;> (try split at ht) <;> (try split at ht) <;> (try split at ht) <;> (try split at ht) <;> (try split at ht) <;> first | (simp at ht; done) | (simp only [Option.some.injEq] at ht; subst ht; dsimp only; first | omega | (simp only [List.length_append, List.length_cons, List.length_nil]; omega))

def run : Rd → List UInt8 → Option Rd
  | r, [] => some r
  | r, c :: l => (r.take c.toNat).bind fun q => run q l
def rd0 : Rd := ⟨0, 0, 0, [], false, 0⟩
theorem rd0_ok : rd0.ok := by simp [Rd.ok, rd0]
theorem run_ok {l : List UInt8} : ∀ {r r' : Rd}, r.ok → run r l = some r' → r'.ok := by
  induction l with
  | nil => intro r r' h e; simp [run] at e; exact e ▸ h
  | cons c l ih =>
    intro r r' h e
    simp only [run, Option.bind_eq_some_iff] at e
    obtain ⟨q, hq, e⟩ := e
    exact ih (Rd.take_ok h hq) e
theorem run_append (l m : List UInt8) : ∀ r, run r (l ++ m) = (run r l).bind fun q => run q m := by
  induction l with
  | nil => intro r; rfl
  | cons c l ih =>
    intro r
    simp only [List.cons_append, run]
    cases h : r.take c.toNat with
    | none => rfl
    | some q => simp only [Option.bind_some]; exact ih q
def final (r : Rd) : Prop := r.a = 0 ∨ r.a = 6
def acc (l : List UInt8) : Prop := ∃ r, run rd0 l = some r ∧ final r

def capC (c : UInt8) : Bool := decide (65 ≤ c.toNat ∧ c.toNat ≤ 90)
def capAt (l : List UInt8) (i : Nat) : Bool := match l[i]? with | some c => capC c | none => false
def byteAt (l : List UInt8) (i : Nat) : Int := ((l[i]?.getD 0).toNat : Int)
def stepsOf : List (Int × Int) → List UInt8 → List (Int × Int) × List UInt8
  | acc, c :: x :: y :: r =>
    if capC c then stepsOf (acc ++ [((c.toNat : Int), 0)]) (x :: y :: r)
    else if c.toNat = 33 ∧ capC x = true ∧ capC y = true ∧ 0 < acc.length then stepsOf (acc ++ [((y.toNat : Int), (x.toNat : Int))]) r
    else (acc, c :: x :: y :: r)
  | acc, c :: r => if capC c then stepsOf (acc ++ [((c.toNat : Int), 0)]) r else (acc, c :: r)
  | acc, [] => (acc, [])
theorem stepsOf_cons (acc : List (Int × Int)) (c : UInt8) (r : List UInt8) : stepsOf acc (c :: r) =
    if capC c then stepsOf (acc ++ [((c.toNat : Int), 0)]) r
    else if c.toNat = 33 ∧ capAt r 0 = true ∧ capAt r 1 = true ∧ 0 < acc.length then stepsOf (acc ++ [(byteAt r 1, byteAt r 0)]) (r.drop 2)
    else (acc, c :: r) := by
  match r with
  | [] => simp [stepsOf, capAt]
  | [x] => simp [stepsOf, capAt]
  | x :: y :: r => simp [stepsOf, capAt, byteAt]
def oneOf (r : List UInt8) : Bool := decide (byteAt r 0 = 61 ∧ 0 < r.length)
def restOf (r : List UInt8) : List UInt8 := if oneOf r then r.drop 1 else r
def isDig (c : UInt8) : Bool := decide (48 ≤ c.toNat ∧ c.toNat ≤ 57)
def numOf (v : Int) (l : List UInt8) : Int := l.foldl (fun v c => 10 * v + ((c.toNat : Int) - 48)) v
def winB (t : List UInt8) : Prop := 2 ≤ t.length ∧ byteAt t 0 = 64 ∧ t.length ≤ 14 ∧ (∀ c ∈ t.drop 1, isDig c = true) ∧ numOf 0 (t.drop 1) ≤ 1099511627776
def wholeP (l : List UInt8) : Prop := l = [] ∨ (1 ≤ (stepsOf [] l).1.length ∧ (stepsOf [] l).1.length ≤ 3 ∧ winB (restOf (stepsOf [] l).2))

theorem numOf_mono (l : List UInt8) : ∀ v : Int, 0 ≤ v → (∀ c ∈ l, isDig c = true) → v ≤ numOf v l := by
  induction l with
  | nil => intro v _ _; simp [numOf]
  | cons c l ih =>
    intro v hv h
    have hc := h c (by simp)
    simp only [isDig, decide_eq_true_eq] at hc
    have := ih (10 * v + ((c.toNat : Int) - 48)) (by omega) (fun x hx => h x (by simp [hx]))
    simp only [numOf, List.foldl_cons] at *
    omega

theorem run_digits (l : List UInt8) : ∀ r : Rd, r.ok → (r.a = 5 ∨ r.a = 6) → ((∃ q, run r l = some q ∧ final q) ↔ ((0 < l.length ∨ r.a = 6) ∧ r.d + l.length ≤ 13 ∧ (∀ c ∈ l, isDig c = true) ∧ numOf r.v l ≤ 1099511627776)) := by
  induction l with
  | nil =>
    intro r hok ha
    unfold Rd.ok at hok
    simp only [run, Option.some.injEq, exists_eq_left', final, numOf, List.foldl_nil, List.length_nil, List.not_mem_nil, false_implies, implies_true]
    constructor
    · intro h; refine ⟨by omega, by omega, trivial, by omega⟩
    · intro h; omega
  | cons c l ih =>
    intro r hok ha
    have ht : r.take c.toNat = r.digit c.toNat := by
      unfold Rd.take; rw [if_neg (by omega), if_neg (by omega), if_neg (by omega), if_neg (by omega)]
    simp only [run, ht]
    unfold Rd.digit
    by_cases hd : 48 ≤ (c.toNat : Int) ∧ (c.toNat : Int) ≤ 57 ∧ r.d < 13 ∧ 10 * r.v + ((c.toNat : Int) - 48) ≤ 1099511627776
    · rw [if_pos hd]
      have hok' : Rd.ok { r with a := 6, d := r.d + 1, v := 10 * r.v + ((c.toNat : Int) - 48) } := by unfold Rd.ok at *; simp only; omega
      simp only [Option.bind_some]
      rw [ih _ hok' (Or.inr rfl)]
      have hdc : isDig c = true := by simp only [isDig, decide_eq_true_eq]; omega
      simp only [List.mem_cons, forall_eq_or_imp, hdc, true_and, List.length_cons, numOf, List.foldl_cons]
      constructor
      · rintro ⟨_, a, b, e⟩; exact ⟨by omega, by omega, b, e⟩
      · rintro ⟨_, a, b, e⟩; exact ⟨by simp, by omega, b, e⟩
    · rw [if_neg hd]
      simp only [Option.bind_none, reduceCtorEq, false_and, exists_false, false_iff]
      rintro ⟨_, a, b, e⟩
      have hdc := b c (by simp)
      simp only [isDig, decide_eq_true_eq] at hdc
      simp only [List.length_cons] at a
      apply hd
      have := numOf_mono l (10 * r.v + ((c.toNat : Int) - 48)) (by unfold Rd.ok at hok; omega) (fun x hx => b x (by simp [hx]))
      simp only [numOf, List.foldl_cons] at *
      omega

theorem run_at (t : List UInt8) (r : Rd) (hok : r.ok) (hd : r.d = 0) (hv : r.v = 0) (hf : ¬ final r) (hat : ∀ c : Int, r.take c = if c = 64 then some { r with a := 5 } else none) :
    (∃ q, run r t = some q ∧ final q) ↔ winB t := by
  unfold winB
  cases t with
  | nil => simp [run, hf]
  | cons c t =>
    simp only [run, hat]
    by_cases h : (c.toNat : Int) = 64
    · rw [if_pos h]
      simp only [Option.bind_some]
      rw [run_digits t _ (by unfold Rd.ok at *; simpa using hok) (Or.inl rfl)]
      simp only [List.length_cons, byteAt, List.getElem?_cons_zero, Option.getD_some, h, true_and, List.drop_succ_cons, List.drop_zero, hv, hd]
      constructor
      · rintro ⟨a, b, e, f⟩; exact ⟨by omega, by omega, e, f⟩
      · rintro ⟨a, b, e, f⟩; exact ⟨by omega, by omega, e, f⟩
    · rw [if_neg h]
      simp [byteAt, h]

theorem stepsOf_len (l : List UInt8) : ∀ acc, acc.length ≤ (stepsOf acc l).1.length := by
  induction hn : l.length using Nat.strongRecOn generalizing l with
  | _ n ih =>
    intro acc
    cases l with
    | nil => simp [stepsOf]
    | cons c r =>
      rw [stepsOf_cons]
      split
      · have := ih r.length (by simp at hn; omega) r rfl (acc ++ [((c.toNat : Int), 0)]); simp at this; omega
      · split
        · have := ih (r.drop 2).length (by simp at hn ⊢; omega) (r.drop 2) rfl (acc ++ [(byteAt r 1, byteAt r 0)]); simp at this; omega
        · simp

theorem capC_iff (c : UInt8) : capC c = true ↔ 65 ≤ (c.toNat : Int) ∧ (c.toNat : Int) ≤ 90 := by simp [capC]; omega

theorem run_steps (l : List UInt8) : ∀ (r : Rd) (ac : List (Int × Int)), r.ok → r.d = 0 → r.v = 0 → r.a = 1 → r.sts.length = ac.length → 0 < ac.length →
    ((∃ q, run r l = some q ∧ final q) ↔ ((stepsOf ac l).1.length ≤ 3 ∧ winB (restOf (stepsOf ac l).2))) := by
  induction hn : l.length using Nat.strongRecOn generalizing l with
  | _ n ih =>
    intro r ac hok hd hv ha hs hac
    have hok0 := hok
    unfold Rd.ok at hok
    cases l with
    | nil => simp [stepsOf, run, final, ha, restOf, oneOf, winB]
    | cons c t =>
      have ht : r.take c.toNat = r.behind c.toNat := by unfold Rd.take; rw [if_neg (by omega), if_pos ha]
      simp only [run, ht]
      rw [stepsOf_cons]
      by_cases hc : capC c = true
      · have hc' := (capC_iff c).1 hc
        rw [if_pos hc]
        have hb : r.behind c.toNat = r.step c.toNat := by unfold Rd.behind; rw [if_neg (by omega), if_neg (by omega), if_neg (by omega)]
        rw [hb]
        unfold Rd.step
        by_cases h3 : r.sts.length < 3
        · rw [if_pos ⟨hc', h3⟩]
          simp only [Option.bind_some]
          exact ih t.length (by simp at hn; omega) t rfl _ (ac ++ [((c.toNat : Int), 0)]) (by unfold Rd.ok; simp only [List.length_append, List.length_cons, List.length_nil]; omega) hd hv rfl (by simp [hs]) (by simp)
        · rw [if_neg (by omega)]
          have := stepsOf_len t (ac ++ [((c.toNat : Int), 0)])
          simp only [List.length_append, List.length_cons, List.length_nil] at this
          simp only [Option.bind_none, reduceCtorEq, false_and, exists_false, false_iff]
          omega
      · rw [if_neg hc]
        have hc' : ¬ (65 ≤ (c.toNat : Int) ∧ (c.toNat : Int) ≤ 90) := fun h => hc ((capC_iff c).2 h)
        by_cases h33 : (c.toNat : Int) = 33
        · have hb : r.behind c.toNat = if r.sts.length < 3 then some { r with a := 2 } else none := by unfold Rd.behind; rw [if_neg (by omega), if_neg (by omega), if_pos h33]
          rw [hb]
          -- the two letters
          by_cases h2 : c.toNat = 33 ∧ capAt t 0 = true ∧ capAt t 1 = true ∧ 0 < ac.length
          · rw [if_pos h2]
            obtain ⟨_, c0, c1, _⟩ := h2
            match t, c0, c1, hn with
            | x :: y :: t', c0, c1, hn =>
              simp only [capAt, List.getElem?_cons_zero, List.getElem?_cons_succ] at c0 c1
              have hx := (capC_iff x).1 c0
              have hy := (capC_iff y).1 c1
              by_cases h3 : r.sts.length < 3
              · rw [if_pos h3]
                simp only [Option.bind_some, run]
                have e1 : Rd.take { r with a := 2 } x.toNat = some { r with a := 3, br := x.toNat } := by simp [Rd.take, hx]
                rw [e1]
                simp only [Option.bind_some]
                have e2 : Rd.take { r with a := 3, br := x.toNat } y.toNat = some { r with a := 1, br := 0, sts := r.sts ++ [((y.toNat : Int), (x.toNat : Int))] } := by simp [Rd.take, Rd.step, hy, h3]
                rw [e2]
                simp only [Option.bind_some]
                exact ih t'.length (by simp at hn; omega) t' rfl _ _ (by unfold Rd.ok; simp only [List.length_append, List.length_cons, List.length_nil]; omega) hd hv rfl (by simp [hs]) (by simp)
              · rw [if_neg h3]
                have := stepsOf_len t' (ac ++ [(byteAt (x :: y :: t') 1, byteAt (x :: y :: t') 0)])
                simp only [List.length_append, List.length_cons, List.length_nil] at this
                simp only [Option.bind_none, reduceCtorEq, false_and, exists_false, false_iff, List.drop_succ_cons, List.drop_zero]
                omega
          · rw [if_neg h2]
            have hw : ¬ winB (restOf (c :: t)) := by
              have : restOf (c :: t) = c :: t := by simp [restOf, oneOf, byteAt, h33]
              rw [this]; unfold winB; simp [byteAt, h33]
            simp only [hw, and_false, iff_false]
            rintro ⟨q, hq, hf⟩
            apply h2
            split at hq
            · simp only [Option.bind_some] at hq
              match t, hq with
              | [], hq => simp [run] at hq; subst hq; simp [final] at hf
              | x :: t', hq =>
                simp only [run, Option.bind_eq_some_iff] at hq
                obtain ⟨q1, h1, hq⟩ := hq
                have e1 : Rd.take { r with a := 2 } x.toNat = if 65 ≤ (x.toNat : Int) ∧ (x.toNat : Int) ≤ 90 then some { r with a := 3, br := x.toNat } else none := by simp [Rd.take]
                rw [e1] at h1
                split at h1
                · rename_i hx
                  simp only [Option.some.injEq] at h1
                  subst h1
                  match t', hq with
                  | [], hq => simp [run] at hq; subst hq; simp [final] at hf
                  | y :: t2, hq =>
                    simp only [run, Option.bind_eq_some_iff] at hq
                    obtain ⟨q2, h2', hq⟩ := hq
                    have e2 : Rd.take { r with a := 3, br := x.toNat } y.toNat = Rd.step { r with a := 3, br := x.toNat } y.toNat := by simp [Rd.take]
                    rw [e2] at h2'
                    unfold Rd.step at h2'
                    split at h2'
                    · rename_i hy
                      exact ⟨by omega, (capC_iff x).2 hx, (capC_iff y).2 hy.1, hac⟩
                    · simp at h2'
                · simp at h1
            · simp at hq
        · have hns : ¬ (c.toNat = 33 ∧ capAt t 0 = true ∧ capAt t 1 = true ∧ 0 < ac.length) := by omega
          rw [if_neg hns]
          have hle : ac.length ≤ 3 := by omega
          simp only [hle, true_and]
          by_cases h61 : (c.toNat : Int) = 61
          · have hb : r.behind c.toNat = some { r with a := 4, same := true } := by unfold Rd.behind; rw [if_pos h61]
            have e : restOf (c :: t) = t := by simp [restOf, oneOf, byteAt, h61]
            rw [hb, e]
            simp only [Option.bind_some]
            exact run_at t _ (by unfold Rd.ok; simp only; omega) hd hv (by simp [final]) (fun x => by simp [Rd.take])
          · have e : restOf (c :: t) = c :: t := by simp [restOf, oneOf, byteAt, h61]
            rw [e]
            have hb : r.behind c.toNat = if (c.toNat : Int) = 64 then some { r with a := 5 } else none := by
              unfold Rd.behind Rd.step; rw [if_neg h61]
              by_cases h64 : (c.toNat : Int) = 64
              · rw [if_pos h64, if_pos h64]
              · rw [if_neg h64, if_neg h64, if_neg h33, if_neg (by omega)]
            rw [hb]
            unfold winB
            by_cases h64 : (c.toNat : Int) = 64
            · rw [if_pos h64]
              simp only [Option.bind_some]
              rw [run_digits t _ (by unfold Rd.ok; simp only; omega) (Or.inl rfl)]
              simp only [List.length_cons, byteAt, List.getElem?_cons_zero, Option.getD_some, h64, true_and, List.drop_succ_cons, List.drop_zero, hv, hd]
              constructor
              · rintro ⟨a, b, e, f⟩; exact ⟨by omega, by omega, e, f⟩
              · rintro ⟨a, b, e, f⟩; exact ⟨by omega, by omega, e, f⟩
            · rw [if_neg h64]
              simp [byteAt, h64]

theorem acc_iff (l : List UInt8) : acc l ↔ wholeP l := by
  unfold acc wholeP
  cases l with
  | nil => simp [run, final, rd0]
  | cons c t =>
    have ht : rd0.take c.toNat = rd0.step c.toNat := by simp [Rd.take, rd0]
    simp only [run, ht, reduceCtorEq, false_or]
    rw [stepsOf_cons]
    unfold Rd.step
    by_cases hc : capC c = true
    · have hc' := (capC_iff c).1 hc
      rw [if_pos ⟨hc', by simp [rd0]⟩, if_pos hc]
      simp only [Option.bind_some]
      rw [run_steps t _ ([] ++ [((c.toNat : Int), 0)]) (by simp [Rd.ok, rd0]) rfl rfl rfl (by simp [rd0]) (by simp)]
      have := stepsOf_len t ([] ++ [((c.toNat : Int), 0)])
      simp only [List.nil_append, List.length_cons, List.length_nil] at *
      constructor
      · rintro ⟨a, b⟩; exact ⟨by omega, a, b⟩
      · rintro ⟨_, a, b⟩; exact ⟨a, b⟩
    · have hc' : ¬ (65 ≤ (c.toNat : Int) ∧ (c.toNat : Int) ≤ 90) := fun h => hc ((capC_iff c).2 h)
      rw [if_neg (fun h => hc' h.1), if_neg hc, if_neg (by simp)]
      simp

def ways : List (List UInt8) := [[], [48], [64, 48], [65, 64, 48], [65, 65, 64, 48]]
def goesP (l : List UInt8) : Prop := ∃ x ∈ ways, wholeP (l ++ x)

def Rd.st (r : Rd) : Prop := (0 ≤ r.a ∧ r.a ≤ 6) ∧ (r.a = 1 ∨ 4 ≤ r.a ∨ r.sts.length < 3) ∧ (r.a = 6 ∨ (r.d = 0 ∧ r.v = 0))
theorem Rd.take_st {r r' : Rd} {c : Int} (h : r.st) (ht : r.take c = some r') : r'.st := by
  unfold Rd.st at *
  unfold Rd.take Rd.behind Rd.step Rd.digit at ht
  split at ht <;> (try split at ht) <;> (try split at ht) <;> (try split at ht) <;> (try split at ht) <;> (try split at ht) <;> (try split at ht) <;> first | (simp at ht; done) | (simp only [Option.some.injEq] at ht; subst ht; dsimp only; first | omega | (simp only [List.length_append, List.length_cons, List.length_nil]; omega))
theorem run_st {l : List UInt8} : ∀ {r r' : Rd}, r.st → run r l = some r' → r'.st := by
  induction l with
  | nil => intro r r' h e; simp [run] at e; exact e ▸ h
  | cons c l ih =>
    intro r r' h e
    simp only [run, Option.bind_eq_some_iff] at e
    obtain ⟨q, hq, e⟩ := e
    exact ih (Rd.take_st h hq) e

theorem goes_iff (l : List UInt8) : goesP l ↔ (run rd0 l).isSome = true := by
  unfold goesP
  simp only [← acc_iff]
  constructor
  · rintro ⟨x, _, r, hr, _⟩
    rw [run_append] at hr
    cases h : run rd0 l with
    | none => rw [h] at hr; simp at hr
    | some q => rfl
  · intro h
    obtain ⟨r, hr⟩ := Option.isSome_iff_exists.1 h
    have hs : r.st := run_st (by simp [Rd.st, rd0]) hr
    have hok := run_ok rd0_ok hr
    unfold Rd.st at hs
    unfold Rd.ok at hok
    have key : ∀ x q, run r x = some q → final q → acc (l ++ x) := fun x q h1 h2 => ⟨q, by rw [run_append, hr]; exact h1, h2⟩
    obtain ⟨ra, rbr, rdd, rst, rsame, rv⟩ := r
    simp only at hs hok
    obtain ⟨h0', h1, h3⟩ := hs
    have h0 : ra = 0 ∨ ra = 1 ∨ ra = 2 ∨ ra = 3 ∨ ra = 4 ∨ ra = 5 ∨ ra = 6 := by omega
    rcases h0 with h0 | h0 | h0 | h0 | h0 | h0 | h0
    · subst h0; exact ⟨[], by simp [ways], key [] _ rfl (Or.inl rfl)⟩
    · subst h0
      obtain ⟨rfl, rfl⟩ : rdd = 0 ∧ rv = 0 := by omega
      exact ⟨[64, 48], by simp [ways], key _ ⟨6, rbr, 1, rst, rsame, 0⟩ (by simp [run, Rd.take, Rd.behind, Rd.digit]) (Or.inr rfl)⟩
    · subst h0
      obtain ⟨rfl, rfl⟩ : rdd = 0 ∧ rv = 0 := by omega
      have hlt : rst.length < 3 := by omega
      exact ⟨[65, 65, 64, 48], by simp [ways], key _ ⟨6, 0, 1, rst ++ [(65, 65)], rsame, 0⟩ (by simp [run, Rd.take, Rd.behind, Rd.digit, Rd.step, hlt]) (Or.inr rfl)⟩
    · subst h0
      obtain ⟨rfl, rfl⟩ : rdd = 0 ∧ rv = 0 := by omega
      have hlt : rst.length < 3 := by omega
      exact ⟨[65, 64, 48], by simp [ways], key _ ⟨6, 0, 1, rst ++ [(65, rbr)], rsame, 0⟩ (by simp [run, Rd.take, Rd.behind, Rd.digit, Rd.step, hlt]) (Or.inr rfl)⟩
    · subst h0
      obtain ⟨rfl, rfl⟩ : rdd = 0 ∧ rv = 0 := by omega
      exact ⟨[64, 48], by simp [ways], key _ ⟨6, rbr, 1, rst, rsame, 0⟩ (by simp [run, Rd.take, Rd.digit]) (Or.inr rfl)⟩
    · subst h0
      obtain ⟨rfl, rfl⟩ : rdd = 0 ∧ rv = 0 := by omega
      exact ⟨[48], by simp [ways], key _ ⟨6, rbr, 1, rst, rsame, 0⟩ (by simp [run, Rd.take, Rd.digit]) (Or.inr rfl)⟩
    · subst h0; exact ⟨[], by simp [ways], key [] _ rfl (Or.inr rfl)⟩

def IsFirst (p : Nat → Prop) (n k : Nat) : Prop := k ≤ n ∧ (∀ j, j < k → p j) ∧ (k < n → ¬ p k)
def CheckIs (whole goes : List UInt8 → Prop) (l : List UInt8) (e at_ : Int) : Prop :=
  (60 < l.length ∧ e = 9 ∧ at_ = 0) ∨ (l.length ≤ 60 ∧ whole l ∧ e = 0 ∧ at_ = 0) ∨
  (l.length ≤ 60 ∧ ¬ whole l ∧ e = 2 ∧ ∃ k : Nat, at_ = k ∧ IsFirst (fun j => goes (l.take (j + 1))) l.length k)
theorem checkIs_iff (l : List UInt8) (e a : Int) : CheckIs acc (fun x => (run rd0 x).isSome = true) l e a ↔ CheckIs wholeP goesP l e a := by
  have h1 : acc = wholeP := by funext l; exact propext (acc_iff l)
  have h2 : (fun x => (run rd0 x).isSome = true) = goesP := by funext l; exact propext (goes_iff l).symm
  rw [h1, h2]
end Go.Proofs.YtghcololkgeoeabGreat
namespace Go.Proofs.YtghcololkgeoeabGreat
open Go.RowKit
theorem tkS : (∀ {α : Type} (l : List α) (i : Nat) (v : α), l.toArray.setIfInBounds i v = (l.set i v).toArray) ∧ (∀ {α : Type} (x v : α) (l : List α), (x :: l).set 0 v = v :: l) ∧ (∀ {α : Type} (x v : α) (l : List α) (i : Nat), (x :: l).set (i + 1) v = x :: l.set i v) ∧ (∀ {α : Type} (l : List α) (i : Nat) (h : i < l.toArray.size), l.toArray[i] = l[i]'(by simpa using h)) ∧ (∀ {α : Type} (x : α) (l : List α) (i : Nat) (h : i + 1 < (x :: l).length), (x :: l)[i + 1] = l[i]'(Nat.lt_of_succ_lt_succ h)) ∧ (∀ {α : Type} (x : α) (l : List α) (h : 0 < (x :: l).length), (x :: l)[0] = x) := ⟨fun l i v => List.setIfInBounds_toArray l i v, fun _ _ _ => rfl, fun _ _ _ _ => rfl, fun _ _ _ => rfl, fun _ _ _ _ => rfl, fun _ _ _ => rfl⟩
set_option linter.unusedVariables false
set_option linter.unusedSimpArgs false

section
variable {P : Program} {ops : Array Oper} {Q : Exit → Act → World → Prop} {md : Region.Mode} {S : World → Prop} {t : Nat}

def UpTo (P : Program) (md : Region.Mode) (ops : Array Oper) (Q : Exit → Act → World → Prop) (S : World → Prop) (t : Nat) : Nat → Array Bool → Act → World → Prop
  | 0, listed, a, w => Region.ready md ops listed = [] ∧ Q .normal a w
  | fuel + 1, listed, a, w => (Region.ready md ops listed = [] → Q .normal a w) ∧ ∀ i ∈ Region.ready md ops listed, wpOp P ops Q i (fun b v => (i ≠ t → S v) ∧ UpTo P md ops Q S t fuel (listed.setIfInBounds i true) b v) a w

theorem upTo_any : ∀ (fuel : Nat) (listed : Array Bool) (a : Act) (w : World), UpTo P md ops Q S t fuel listed a w → wpAny P md ops Q fuel listed a w := by
  intro fuel
  induction fuel with
  | zero => intro _ _ _ h; exact h
  | succ n ih => intro listed a w h; exact ⟨h.1, fun i hi => wpOp_mono (fun b v hb => ih _ b v hb.2) (h.2 i hi)⟩

def waitsFor (md : Region.Mode) (ops : Array Oper) (t i : Nat) : Bool := match ops[t]? with | some o => o.after.toList.any (fun e => Region.binds md e && e.on == i) | none => false

theorem not_ready {listed : Array Bool} {i : Nat} (hw : waitsFor md ops t i = true) (hr : i ∈ Region.ready md ops listed) : t ∉ Region.ready md ops listed := by
  intro ht
  obtain ⟨_, o, ho, hall⟩ := mem_ready.1 ht
  unfold waitsFor at hw
  rw [ho] at hw
  simp only [List.any_eq_true, Array.mem_toList_iff, Bool.and_eq_true, beq_iff_eq] at hw
  obtain ⟨e, he, hb, hi⟩ := hw
  have h1 := hall e he hb
  have h0 := (mem_ready.1 hr).1
  rw [hi] at h1
  rw [Array.getD_eq_getD_getElem?] at h0 h1
  cases hx : listed[i]? with
  | none => rw [hx] at h1; simp at h1
  | some x => rw [hx] at h0 h1; simp at h0 h1; rw [h0] at h1; cases h1

theorem upTo_first {i : Nat} {oi : Oper} {v : Value} (hi : ops[i]? = some oi) (hsel : ∀ (j : Nat) (o : Oper) cs b, ops[j]? = some o → o.op ≠ .select cs b) (hw : waitsFor md ops t i = true) (hit : i ≠ t)
    (hQ : ∀ c a w, Q (.panic c) (a.put oi.dst v) w → Q (.panic c) a w) : ∀ (fuel : Nat) (listed : Array Bool) (a : Act) (w : World),
      (∀ j oj, ops[j]? = some oj → j ≠ i → listed.getD j true = false → (∀ e ∈ oj.after, Region.binds md e = true → e.on ≠ i) → oi.apart ops oj = true) →
      i ∈ Region.ready md ops listed → YieldsIf P ops S oi v a → S w → UpTo P md ops Q S t fuel (listed.setIfInBounds i true) (a.put oi.dst v) w → UpTo P md ops Q S t (fuel + 1) listed a w := by
  intro fuel
  induction fuel with
  | zero =>
    intro listed a w _ hr hy hS H
    refine ⟨fun e => absurd (e ▸ hr) (by simp), fun j hj => ?_⟩
    by_cases hji : j = i
    · subst hji; exact hy.wpOp hi hS ⟨fun _ => hS, H⟩
    · exact absurd (H.1 ▸ ready_mono hj hji) (by simp)
  | succ n ih =>
    intro listed a w hfree hr hy hS H
    refine ⟨fun e => absurd (e ▸ hr) (by simp), fun j hj => ?_⟩
    by_cases hji : j = i
    · subst hji; exact hy.wpOp hi hS ⟨fun _ => hS, H⟩
    · have hjt : j ≠ t := fun e => not_ready hw hr (e ▸ hj)
      obtain ⟨hjun, oj, hoj, hall⟩ := mem_ready.1 hj
      have hno : ∀ e ∈ oj.after, Region.binds md e = true → e.on ≠ i := by
        intro e he hb heq
        have h1 := hall e he hb
        have h0 := (mem_ready.1 hr).1
        rw [heq, Array.getD_eq_getD_getElem?] at h1
        rw [Array.getD_eq_getD_getElem?] at h0
        cases hx : listed[i]? with
        | none => rw [hx] at h1; simp at h1
        | some x => rw [hx] at h0 h1; simp at h0 h1; rw [h0] at h1; cases h1
      have step := wpOp_putIf hoj (hfree j oj hoj hji hjun hno) (fun cs b => hsel i oi cs b hi) (fun cs b => hsel j oj cs b hoj) hQ hy (H.2 j (ready_mono hj hji))
      refine wpOp_mono (fun b u hb => ⟨hb.2.1, ?_⟩) step
      refine ih (listed.setIfInBounds j true) b u ?_ (ready_mono hr (Ne.symm hji)) hb.1 (hb.2.1 hjt) ?_
      · intro k ok hk hki hun hno'
        refine hfree k ok hk hki ?_ hno'
        by_cases hjk : j = k
        · subst hjk; exact hjun
        · rwa [getD_set_ne true hjk] at hun
      · rw [Array.setIfInBounds_comm _ _ hji]; exact hb.2.2

theorem upTo_take {i : Nat} {oi : Oper} {v : Value} {fuel : Nat} {listed : Array Bool} {a : Act} {w : World} (hi : ops[i]? = some oi) (hs : Region.noSelect ops = true) (hf : Region.free md ops listed i = true)
    (hr : (Region.ready md ops listed).contains i = true) (hw : waitsFor md ops t i = true) (hit : (i == t) = false) (hQ : ∀ c a w, Q (.panic c) (a.put oi.dst v) w → Q (.panic c) a w)
    (hwant : Region.wanted oi (yielded ops a.tmps) = true) (hS : S w) (hy : ∀ u, S u → (execOp a.eval oi).run P u = .ok (.value v) u)
    (h : UpTo P md ops Q S t fuel (listed.setIfInBounds i true) (a.put oi.dst v) w) : UpTo P md ops Q S t (fuel + 1) listed a w :=
  upTo_first hi (Region.noSelect_spec hs) hw (by simpa using hit) hQ fuel listed a w (Region.free_spec hi hf) (by simpa using hr) (Or.inl ⟨hwant, hy⟩) hS h

theorem upTo_one {i : Nat} {o : Oper} {fuel : Nat} {listed : Array Bool} {a : Act} {w : World} (hr : Region.ready md ops listed = [i]) (ho : ops[i]? = some o)
    (h : ∀ K : Act → World → Prop, Shut (∀ b v, (i ≠ t → S v) → UpTo P md ops Q S t fuel (listed.setIfInBounds i true) b v → K b v) → if Region.wanted o (yielded ops a.tmps) = true then Oper.wp P o a w K Q else K (a.put o.dst undef) w) : UpTo P md ops Q S t (fuel + 1) listed a w := by
  refine ⟨fun e => absurd (hr ▸ e) (by simp), ?_⟩
  rw [hr]
  intro j hj
  simp only [List.mem_singleton] at hj
  subst hj
  exact wpOp_step ho (fun K hK => h K (fun b v h1 h2 => hK b v ⟨h1, h2⟩))
theorem upTo_done {fuel : Nat} {listed : Array Bool} {a : Act} {w : World} (hr : Region.ready md ops listed = []) (h : Q .normal a w) : UpTo P md ops Q S t fuel listed a w := by
  cases fuel with
  | zero => exact ⟨hr, h⟩
  | succ n => exact ⟨fun _ => h, by rw [hr]; simp⟩
theorem upTo_region {id : Nat} {a : Act} {w : World} (S : World → Prop) (t n : Nat) (hn : ops.size = n) (hm : P.follows .mixedOrders = true) (h : UpTo P .any ops Q S t n (Array.replicate n false) a w.drew) : (Code.region id ops true).wp P Q a w := by
  subst hn
  exact wp_region_any hm (upTo_any _ _ _ _ h)
theorem upTo_tk {i : Nat} {oi : Oper} {v : Value} {fuel : Nat} {listed : Array Bool} {a : Act} {w : World} (hi : ops[i]? = some oi) (hk : (Region.noSelect ops && Region.free md ops listed i && (Region.ready md ops listed).contains i && waitsFor md ops t i && !(i == t)) = true) (hQ : ∀ c a w, Q (.panic c) (a.put oi.dst v) w → Q (.panic c) a w)
    (hwant : Region.wanted oi (yielded ops a.tmps) = true) (hS : S w) (hy : ∀ u, S u → (execOp a.eval oi).run P u = .ok (.value v) u)
    (h : UpTo P md ops Q S t fuel (listed.setIfInBounds i true) (a.put oi.dst v) w) : UpTo P md ops Q S t (fuel + 1) listed a w := by
  simp only [Bool.and_eq_true, Bool.not_eq_true'] at hk
  exact upTo_take hi hk.1.1.1.1 hk.1.1.1.2 hk.1.1.2 hk.1.2 hk.2 hQ hwant hS hy h
end
end Go.Proofs.YtghcololkgeoeabGreat
namespace Go.Proofs.YtghcololkgeoeabGreat
open Go.RowKit
set_option linter.unusedVariables false
set_option linter.unusedSimpArgs false

section
variable {P : Program} {ops : Array Oper} {Q : Exit → Act → World → Prop} {md : Region.Mode} {S : World → Prop} {t : Nat}
theorem upTo_first2 {i : Nat} {oi : Oper} {v : Value} (hi : ops[i]? = some oi) (hsel : ∀ (j : Nat) (o : Oper) cs b, ops[j]? = some o → o.op ≠ .select cs b) (hw : ops[t]? = none)
    (hQ : ∀ c a w, Q (.panic c) (a.put oi.dst v) w → Q (.panic c) a w) : ∀ (fuel : Nat) (listed : Array Bool) (a : Act) (w : World),
      (∀ j oj, ops[j]? = some oj → j ≠ i → listed.getD j true = false → (∀ e ∈ oj.after, Region.binds md e = true → e.on ≠ i) → oi.apart ops oj = true) →
      i ∈ Region.ready md ops listed → YieldsIf P ops S oi v a → S w → UpTo P md ops Q S t fuel (listed.setIfInBounds i true) (a.put oi.dst v) w → UpTo P md ops Q S t (fuel + 1) listed a w := by
  intro fuel
  induction fuel with
  | zero =>
    intro listed a w _ hr hy hS H
    refine ⟨fun e => absurd (e ▸ hr) (by simp), fun j hj => ?_⟩
    by_cases hji : j = i
    · subst hji; exact hy.wpOp hi hS ⟨fun _ => hS, H⟩
    · exact absurd (H.1 ▸ ready_mono hj hji) (by simp)
  | succ n ih =>
    intro listed a w hfree hr hy hS H
    refine ⟨fun e => absurd (e ▸ hr) (by simp), fun j hj => ?_⟩
    by_cases hji : j = i
    · subst hji; exact hy.wpOp hi hS ⟨fun _ => hS, H⟩
    · obtain ⟨hjun, oj, hoj, hall⟩ := mem_ready.1 hj
      have hjt : j ≠ t := fun e => by rw [e, hw] at hoj; cases hoj
      have hno : ∀ e ∈ oj.after, Region.binds md e = true → e.on ≠ i := by
        intro e he hb heq
        have h1 := hall e he hb
        have h0 := (mem_ready.1 hr).1
        rw [heq, Array.getD_eq_getD_getElem?] at h1
        rw [Array.getD_eq_getD_getElem?] at h0
        cases hx : listed[i]? with
        | none => rw [hx] at h1; simp at h1
        | some x => rw [hx] at h0 h1; simp at h0 h1; rw [h0] at h1; cases h1
      have step := wpOp_putIf hoj (hfree j oj hoj hji hjun hno) (fun cs b => hsel i oi cs b hi) (fun cs b => hsel j oj cs b hoj) hQ hy (H.2 j (ready_mono hj hji))
      refine wpOp_mono (fun b u hb => ⟨hb.2.1, ?_⟩) step
      refine ih (listed.setIfInBounds j true) b u ?_ (ready_mono hr (Ne.symm hji)) hb.1 (hb.2.1 hjt) ?_
      · intro k ok hk hki hun hno'
        refine hfree k ok hk hki ?_ hno'
        by_cases hjk : j = k
        · subst hjk; exact hjun
        · rwa [getD_set_ne true hjk] at hun
      · rw [Array.setIfInBounds_comm _ _ hji]; exact hb.2.2

theorem upTo_take2 {i : Nat} {oi : Oper} {v : Value} {fuel : Nat} {listed : Array Bool} {a : Act} {w : World} (hi : ops[i]? = some oi) (hs : Region.noSelect ops = true) (hf : Region.free md ops listed i = true)
    (hr : (Region.ready md ops listed).contains i = true) (hw : ops[t]? = none) (hQ : ∀ c a w, Q (.panic c) (a.put oi.dst v) w → Q (.panic c) a w)
    (hwant : Region.wanted oi (yielded ops a.tmps) = true) (hS : S w) (hy : ∀ u, S u → (execOp a.eval oi).run P u = .ok (.value v) u)
    (h : UpTo P md ops Q S t fuel (listed.setIfInBounds i true) (a.put oi.dst v) w) : UpTo P md ops Q S t (fuel + 1) listed a w :=
  upTo_first2 hi (Region.noSelect_spec hs) hw hQ fuel listed a w (Region.free_spec hi hf) (by simpa using hr) (Or.inl ⟨hwant, hy⟩) hS h

theorem upTo_tk2 {i : Nat} {oi : Oper} {v : Value} {fuel : Nat} {listed : Array Bool} {a : Act} {w : World} (hi : ops[i]? = some oi) (hk : (Region.noSelect ops && Region.free md ops listed i && (Region.ready md ops listed).contains i) = true) (hw : ops[t]? = none) (hQ : ∀ c a w, Q (.panic c) (a.put oi.dst v) w → Q (.panic c) a w)
    (hwant : Region.wanted oi (yielded ops a.tmps) = true) (hS : S w) (hy : ∀ u, S u → (execOp a.eval oi).run P u = .ok (.value v) u)
    (h : UpTo P md ops Q S t fuel (listed.setIfInBounds i true) (a.put oi.dst v) w) : UpTo P md ops Q S t (fuel + 1) listed a w := by
  simp only [Bool.and_eq_true] at hk
  exact upTo_take2 hi hk.1.1 hk.1.2 hk.2 hw hQ hwant hS hy h
end
end Go.Proofs.YtghcololkgeoeabGreat
