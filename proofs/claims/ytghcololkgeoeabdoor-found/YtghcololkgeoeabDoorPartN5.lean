import Derived.Test.YtghcololkgeoeabDoorPartN4
import Derived.Deep.QuietTactic
import Derived.BigQuiet
import Derived.Deep.DeepCutAuto
import Derived.Deep.CutBlock
namespace Go.Proofs.YtghcololkgeoeabDoor
open Go.RowKit
set_option linter.unusedVariables false
set_option linter.unusedSimpArgs false
attribute [local go_sem ↓] Go.wp_at_zero Go.wp_at_succ

/-! ### by trying all -/
open Classical in
noncomputable def Pq.candK (P : Pq) (l : List Ev) (z a b : Nat) : List (List Nat) :=
  if P.st.length = 1 then (if a = z ∧ b = z ∧ P.M l [z] then [[z]] else [])
  else if P.st.length = 2 then (if a < z ∧ b = z ∧ P.M l [a, z] then [[a, z]] else [])
  else if P.st.length = 3 then (if a < b ∧ b < z ∧ P.M l [a, b, z] then [[a, b, z]] else [])
  else []
noncomputable def Pq.rowB (P : Pq) (l : List Ev) (z a b : Nat) : List (List Nat) := (List.range' a (b - a)).flatMap (P.candK l z a)
noncomputable def Pq.rowA (P : Pq) (l : List Ev) (z a : Nat) : List (List Nat) := (List.range' 0 a).flatMap (fun a => P.rowB l z a (z + 1))
noncomputable def Pq.rowZ (P : Pq) (l : List Ev) (z : Nat) : List (List Nat) := (List.range z).flatMap (fun z => P.rowA l z (z + 1))
theorem rowB_zero (P : Pq) (l : List Ev) (z a : Nat) : P.rowB l z a a = [] := by unfold Pq.rowB; rw [Nat.sub_self]; rfl
theorem rowB_succ (P : Pq) (l : List Ev) (z a b : Nat) (h : a ≤ b) : P.rowB l z a (b + 1) = P.rowB l z a b ++ P.candK l z a b := by
  unfold Pq.rowB
  rw [show b + 1 - a = (b - a) + 1 by omega, List.range'_concat, List.flatMap_append]
  simp only [List.flatMap_cons, List.flatMap_nil, List.append_nil, Nat.one_mul]
  rw [show a + (b - a) = b by omega]
theorem rowA_succ (P : Pq) (l : List Ev) (z a : Nat) : P.rowA l z (a + 1) = P.rowA l z a ++ P.rowB l z a (z + 1) := by
  unfold Pq.rowA
  rw [List.range'_concat, List.flatMap_append]
  simp
theorem rowZ_succ (P : Pq) (l : List Ev) (z : Nat) : P.rowZ l (z + 1) = P.rowZ l z ++ P.rowA l z (z + 1) := by
  unfold Pq.rowZ
  rw [List.range_succ, List.flatMap_append]
  simp
theorem rowB_more (P : Pq) (l : List Ev) (z a b c : Nat) (h : a ≤ b) (hc : b ≤ c) : ∃ T, P.rowB l z a c = P.rowB l z a b ++ T := by
  obtain ⟨d, rfl⟩ := Nat.exists_eq_add_of_le hc
  clear hc
  induction d with
  | zero => exact ⟨[], by simp⟩
  | succ d ih => obtain ⟨T, hT⟩ := ih; exact ⟨T ++ P.candK l z a (b + d), by rw [← Nat.add_assoc, rowB_succ _ _ _ _ _ (by omega), hT, List.append_assoc]⟩
theorem rowA_more (P : Pq) (l : List Ev) (z a c : Nat) (hc : a ≤ c) : ∃ T, P.rowA l z c = P.rowA l z a ++ T := by
  obtain ⟨d, rfl⟩ := Nat.exists_eq_add_of_le hc
  clear hc
  induction d with
  | zero => exact ⟨[], by simp⟩
  | succ d ih => obtain ⟨T, hT⟩ := ih; exact ⟨T ++ P.rowB l z (a + d) (z + 1), by rw [← Nat.add_assoc, rowA_succ, hT, List.append_assoc]⟩
theorem rowZ_more (P : Pq) (l : List Ev) (z c : Nat) (hc : z ≤ c) : ∃ T, P.rowZ l c = P.rowZ l z ++ T := by
  obtain ⟨d, rfl⟩ := Nat.exists_eq_add_of_le hc
  clear hc
  induction d with
  | zero => exact ⟨[], by simp⟩
  | succ d ih => obtain ⟨T, hT⟩ := ih; exact ⟨T ++ P.rowA l (z + d) (z + d + 1), by rw [← Nat.add_assoc, rowZ_succ, hT, List.append_assoc]⟩
theorem rows_more (P : Pq) (l : List Ev) (z a b N : Nat) (h : a ≤ b) (hb : b ≤ z + 1) (ha : a ≤ z) (hz : z < N) : ∃ T, P.rowZ l N = (P.rowZ l z ++ P.rowA l z a ++ P.rowB l z a b) ++ T := by
  obtain ⟨T1, h1⟩ := rowB_more P l z a b (z + 1) h hb
  obtain ⟨T2, h2⟩ := rowA_more P l z (a + 1) (z + 1) (by omega)
  obtain ⟨T3, h3⟩ := rowZ_more P l (z + 1) N hz
  rw [rowZ_succ, h2, rowA_succ, h1] at h3
  exact ⟨T1 ++ T2 ++ T3, by rw [h3]; simp [List.append_assoc]⟩
open Classical in
theorem rowA_brute {P : Pq} {l : List Ev} {z : Nat} (hn : 1 ≤ P.st.length ∧ P.st.length ≤ 3) : P.rowA l z (z + 1) = P.bruteZ l z := by
  unfold Pq.rowA Pq.rowB Pq.bruteZ
  refine flatMap_congr' (fun a ha => ?_)
  rw [List.mem_range'_1] at ha
  obtain h | h | h : P.st.length = 1 ∨ P.st.length = 2 ∨ P.st.length = 3 := by omega
  · refine flatMap_congr' (fun b hb => ?_)
    rw [List.mem_range'_1] at hb
    unfold Pq.candK
    rw [if_pos h, if_pos h]
    by_cases hc : a = z ∧ b = z ∧ P.M l [z]
    · rw [if_pos hc, if_pos ⟨hc.1, by omega, hc.2.2⟩]
    · rw [if_neg hc, if_neg (fun e => hc ⟨e.1, by omega, e.2.2⟩)]
  · have n1 : ¬ P.st.length = 1 := by omega
    have e1 : ∀ b, P.candK l z a b = if a < z ∧ b = z ∧ P.M l [a, z] then [[a, z]] else [] := fun b => by unfold Pq.candK; rw [if_neg n1, if_pos h]
    have e2 : (fun b => if P.st.length = 1 then (if a = z ∧ b = a ∧ P.M l [z] then [[z]] else []) else if P.st.length = 2 then (if b = a ∧ a < z ∧ P.M l [a, z] then [[a, z]] else []) else (if a < b ∧ b < z ∧ P.M l [a, b, z] then [[a, b, z]] else [])) = fun b => if b = a ∧ a < z ∧ P.M l [a, z] then [[a, z]] else [] := by funext b; rw [if_neg n1, if_pos h]
    rw [e2, flatMap_one (p := z) (by omega) (fun b h1 h2 h3 => by rw [e1, if_neg (fun e => h3 e.2.1)]), e1]
    rw [flatMap_one (p := a) (by omega) (fun b h1 h2 h3 => by rw [if_neg (fun e => h3 e.1)])]
    by_cases hc : a < z ∧ z = z ∧ P.M l [a, z]
    · rw [if_pos hc, if_pos ⟨rfl, hc.1, hc.2.2⟩]
    · rw [if_neg hc, if_neg (fun e => hc ⟨e.2.1, rfl, e.2.2⟩)]
  · refine flatMap_congr' (fun b hb => ?_)
    have n1 : ¬ P.st.length = 1 := by omega
    have n2 : ¬ P.st.length = 2 := by omega
    unfold Pq.candK
    rw [if_neg n1, if_neg n2, if_pos h, if_neg n1, if_neg n2]
theorem rowZ_find {P : Pq} {l : List Ev} (hn : P.st.length ≤ 3) (hw : 0 ≤ P.wn) (h0 : ∀ e ∈ l, e.kind ≠ P.nt 0) : P.rowZ l l.length = P.findL l := by
  unfold Pq.rowZ Pq.findL
  by_cases hz : P.st.length = 0
  · rw [if_pos hz, List.flatMap_eq_nil_iff]
    intro z _
    unfold Pq.rowA Pq.rowB
    rw [List.flatMap_eq_nil_iff]; intro a _
    rw [List.flatMap_eq_nil_iff]; intro b _
    unfold Pq.candK
    rw [if_neg (by omega), if_neg (by omega), if_neg (by omega)]
  · rw [if_neg hz]
    refine flatMap_congr' (fun z hz' => ?_)
    rw [List.mem_range] at hz'
    rw [rowA_brute ⟨by omega, hn⟩, endL_brute ⟨by omega, hn⟩ hw]
    intro p hp
    unfold evAt
    rw [List.getElem?_eq_getElem (by omega)]
    exact h0 _ (List.getElem_mem _)
/-! ### the walk -/
structure Al (w1 wr : World) (P : Pq) (l : List Ev) (n : Nat) (ka : Option Addr) (kc : Nat) (na : Option Addr) (nc : Nat) (ga : Option Addr) (pb : Nat) (fa : Option Addr) (fc : Nat) (ms : List (Nat × Nat)) (F : List (List Nat)) : Prop where
  bel : Below w1.heap.size w1 wr
  pat : Blk wr pb 30 [.slice ka n kc, .slice na n nc, .bool P.sm, .int .i64 P.wn]
  kd : NumR wr ka n P.kd
  nt : NumR wr na n P.nt
  ev : EvAt wr ga l
  lst : LsAt wr w1.heap.size fa fc ms n F
theorem Al.below {w1 wr wq : World} {P : Pq} {l : List Ev} {n : Nat} {ka : Option Addr} {kc : Nat} {na : Option Addr} {nc : Nat} {ga : Option Addr} {pb : Nat} {fa : Option Addr} {fc : Nat} {ms : List (Nat × Nat)} {F : List (List Nat)} (h : Al w1 wr P l n ka kc na nc ga pb fa fc ms F) (hb : Below wr.heap.size wr wq) : Al w1 wq P l n ka kc na nc ga pb fa fc ms F :=
  ⟨h.bel.trans (hb.mono h.bel.size), h.pat.below hb h.pat.lt, h.kd.below hb, h.nt.below hb, h.ev.belowW hb, h.lst.below hb⟩
/-- what a candidate is -/
def CandP (P : Pq) (l : List Ev) (n z a b : Nat) (f : List Nat) : Prop := (1 ≤ n ∧ f.length = n) ∧ (∀ k, k < n → atN f k < l.length) ∧ (∀ k, k + 1 < f.length → atN f k < atN f (k + 1)) ∧ (P.M l f → P.candK l z a b = [f]) ∧ (¬ P.M l f → P.candK l z a b = [])
theorem cand1 {P : Pq} {l : List Ev} {z a b : Nat} (hn : P.st.length = 1) (hz : z < l.length) (ha : a = z) (hb : b = z) : CandP P l 1 z a b [z] := by
  refine ⟨⟨by omega, rfl⟩, ?_, ?_, ?_, ?_⟩
  · intro k hk; have : k = 0 := by omega
    subst this; exact hz
  · intro k hk; simp at hk
  · intro h; unfold Pq.candK; rw [if_pos hn, if_pos ⟨ha, hb, h⟩]
  · intro h; unfold Pq.candK; rw [if_pos hn, if_neg (fun e => h e.2.2)]
theorem cand2 {P : Pq} {l : List Ev} {z a b : Nat} (hn : P.st.length = 2) (hz : z < l.length) (ha : a < z) (hb : b = z) : CandP P l 2 z a b [a, z] := by
  refine ⟨⟨by omega, rfl⟩, ?_, ?_, ?_, ?_⟩
  · intro k hk
    obtain rfl | rfl : k = 0 ∨ k = 1 := by omega
    · show a < l.length; omega
    · exact hz
  · intro k hk
    have : k = 0 := by simp at hk; omega
    subst this; exact ha
  · intro h; unfold Pq.candK; rw [if_neg (by omega), if_pos hn, if_pos ⟨ha, hb, h⟩]
  · intro h; unfold Pq.candK; rw [if_neg (by omega), if_pos hn, if_neg (fun e => h e.2.2)]
theorem cand3 {P : Pq} {l : List Ev} {z a b : Nat} (hn : P.st.length = 3) (hz : z < l.length) (ha : a < b) (hb : b < z) : CandP P l 3 z a b [a, b, z] := by
  refine ⟨⟨by omega, rfl⟩, ?_, ?_, ?_, ?_⟩
  · intro k hk
    obtain rfl | rfl | rfl : k = 0 ∨ k = 1 ∨ k = 2 := by omega
    · show a < l.length; omega
    · show b < l.length; omega
    · exact hz
  · intro k hk
    obtain rfl | rfl : k = 0 ∨ k = 1 := by simp at hk; omega
    · exact ha
    · exact hb
  · intro h; unfold Pq.candK; rw [if_neg (by omega), if_neg (by omega), if_pos hn, if_pos ⟨ha, hb, h⟩]
  · intro h; unfold Pq.candK; rw [if_neg (by omega), if_neg (by omega), if_pos hn, if_neg (fun e => h e.2.2)]
theorem candN {P : Pq} {l : List Ev} {z a b : Nat} (h1 : P.st.length = 1 → ¬ (a = z ∧ b = z)) (h2 : P.st.length = 2 → ¬ (a < z ∧ b = z)) (h3 : P.st.length = 3 → ¬ (a < b ∧ b < z)) : P.candK l z a b = [] := by
  unfold Pq.candK
  by_cases e1 : P.st.length = 1
  · rw [if_pos e1, if_neg (fun e => h1 e1 ⟨e.1, e.2.1⟩)]
  · rw [if_neg e1]
    by_cases e2 : P.st.length = 2
    · rw [if_pos e2, if_neg (fun e => h2 e2 ⟨e.1, e.2.1⟩)]
    · rw [if_neg e2]
      by_cases e3 : P.st.length = 3
      · rw [if_pos e3, if_neg (fun e => h3 e3 ⟨e.1, e.2.1⟩)]
      · rw [if_neg e3]
theorem lit_row (w : World) (f : List Nat) (hl : f.length ≤ 3) : Row (w.alloc (.cells (natV f).toArray 3)) 3 1 (some ⟨w.heap.size, 0, none⟩) f.length f.length (natV f) := by
  have : (w.alloc (.cells (natV f).toArray 3)).ownsRow 0 3 1 (.slice (some ⟨w.heap.size, 0, none⟩) f.length f.length) f.length (natV f) := by
    have h := World.ownsRow_lit (base := 0) (size := 1) (e := 3) w (natV f).toArray f.length (Nat.zero_le _) (by unfold maxLen; omega) (by simp [natV_len])
    simpa using h
  exact this
set_option maxRecDepth 100000 in
set_option maxHeartbeats 4000000 in
theorem all_any (P : Pq) (l : List Ev) (n : Nat) (ka : Option Addr) (kc : Nat) (na : Option Addr) (nc : Nat) (ga : Option Addr) (gc : Nat) (w : World) (hn : P.st.length = n) (h3 : n ≤ 3) (hl : l.length ≤ 1000) (hts : TsOk l)
    (hkd : NumR w ka n P.kd) (hnt : NumR w na n P.nt) (hev : EvAt w ga l) :
    Calls Tryd.prog 34 #[.agg #[.slice ka n kc, .slice na n nc, .bool P.sm, .int .i64 P.wn], .slice ga l.length gc] w fun e w' => ∃ a c ms, e = .returned (.tuple #[.slice a (List.length ms) c, .bool (decide (100 < (P.rowZ l l.length).length))]) ∧ LsAt w' w.heap.size a c ms n ((P.rowZ l l.length).take 100) ∧ Below w.heap.size w w' := by
  obtain ⟨j0, hj0, hy0, hy1, hy2⟩ := info_parts Tryd.infoInts
  have hnil1 : ∀ W, (binOp .eql 28 (.slice none 0 0) (.slice none 0 0)).run Tryd.prog W = .ok (.bool true) W := fun W => Lib.run_eql_slice_nil_nil W _ _ Tryd.underlying28
  have hnil2 : ∀ W (ad : Addr) (nn cc : Nat), (binOp .eql 28 (.slice (some ad) nn cc) (.slice none 0 0)).run Tryd.prog W = .ok (.bool false) W := fun W ad nn cc => Lib.run_eql_slice_nil W _ _ (some ad) nn cc 0 0 Tryd.underlying28
  obtain ⟨nl, HNl⟩ := hex l.length
  obtain ⟨BB, HBB⟩ := hex (P.rowZ l l.length)
  rw [← HBB.out]
  have HMo : Hid (∀ z a b, a ≤ b → b ≤ z + 1 → a ≤ z → z < nl → ∃ T, BB = (P.rowZ l z ++ P.rowA l z a ++ P.rowB l z a b) ++ T) := by
    intro z a b h1 h2 h3 h4
    rw [HBB.out, ← HNl.out]
    exact rows_more P l z a b nl h1 h2 h3 h4
  have HBe : Hid (BB = P.rowZ l nl) := by show _ = _; rw [HBB.out, HNl.out]
  have HP : Hid (NumR w ka n P.kd ∧ NumR w na n P.nt ∧ EvAt w ga l ∧ P.st.length = n ∧ nl = l.length) := ⟨hkd, hnt, hev, hn, HNl.out⟩
  have HTs : Hid (TsOk l ∧ l.length ≤ 1000) := ⟨hts, hl⟩
  have hnl : nl ≤ 1000 := by rw [HNl.out]; exact hl
  rw [← HNl.out]
  clear hkd hnt hev hn hts hl HBB HNl
  have HB1 : Hid (Below w.heap.size w (w.alloc (.cells #[.slice ka n kc, .slice na n nc, .bool P.sm, .int .i64 P.wn] 30)) ∧ Blk (w.alloc (.cells #[.slice ka n kc, .slice na n nc, .bool P.sm, .int .i64 P.wn] 30)) w.heap.size 30 [.slice ka n kc, .slice na n nc, .bool P.sm, .int .i64 P.wn]) := ⟨(Below.refl _ _).alloc (Nat.le_refl _) _, blk_alloc _ _ _⟩
  go_enter Tryd.func34, Tryd.ntmps34
  go_upto_region 1 with fail
  obtain ⟨pb, HPb⟩ := hex w.heap.size
  obtain ⟨w1, HW1⟩ := hex (w.alloc (.cells #[.slice ka n kc, .slice na n nc, .bool P.sm, .int .i64 P.wn] 30))
  rw [← HW1.out, ← HPb.out]
  rw [← HW1.out] at HB1
  have HA0 : Hid (∀ gx : Nat, Al w1 w1 P l n ka kc na nc ga pb none 0 [] []) := fun _ => ⟨Below.refl _ _, by rw [HPb.out]; exact HB1.out.2, HP.out.1.below HB1.out.1, HP.out.2.1.below HB1.out.1, HP.out.2.2.1.belowW HB1.out.1, ⟨Row.nil _ _ _, rfl, fun i m f hm => by simp at hm, fun i j k hi => by cases i <;> simp [bk] at hi, fun k hk => by simp [bk] at hk⟩⟩
  have p0 := (HA0.out 0).pat.cell 0
  simp only [List.getElem?_cons_zero] at p0
  clear HW1
  go_wp2
  go_loopw [6, 8] (fun ov zv wr => ∃ (z : Nat) (fa : Option Addr) (fc : Nat) (ms : List (Nat × Nat)), ov = .slice fa ms.length fc ∧ z ≤ nl ∧ zv = .int .i64 z ∧ (P.rowZ l z).length ≤ 100 ∧ Al w1 wr P l n ka kc na nc ga pb fa fc ms (P.rowZ l z)) (fun _ zv _ => nl - (intOf zv).toNat)
  case atStart => exact ⟨0, none, 0, [], rfl, Nat.zero_le _, rfl, by simp [Pq.rowZ], HA0.out 0⟩
  case round =>
    clear HA0 p0
    obtain ⟨z, fa, fc, ms, rfl, hz, rfl, hlen, hal⟩ := hrel
    have HLz : Hid ((P.rowZ l z).length ≤ 100) := hlen
    have HAl : Hid (Al w1 wr P l n ka kc na nc ga pb fa fc ms (P.rowZ l z)) := hal
    clear hlen hal
    by_cases hzl : z < nl
    · have hzl' : (z : Int) < (nl : Int) := by omega
      have hz0 : (0 : Int) ≤ (z : Int) := by omega
      go_upto_region 6 with fail
      obtain ⟨wo, HWo⟩ := hex wr
      rw [← HWo.out] at HAl
      rw [← HWo.out]
      clear HWo
      go_wp2
      go_loopw [6, 9] (fun ov av wr => ∃ (a : Nat) (fa : Option Addr) (fc : Nat) (ms : List (Nat × Nat)), ov = .slice fa ms.length fc ∧ a ≤ z + 1 ∧ av = .int .i64 a ∧ (P.rowZ l z ++ P.rowA l z a).length ≤ 100 ∧ Al w1 wr P l n ka kc na nc ga pb fa fc ms (P.rowZ l z ++ P.rowA l z a)) (fun _ av _ => z + 1 - (intOf av).toNat)
      case atStart => exact ⟨0, fa, fc, ms, rfl, Nat.zero_le _, rfl, by simpa [Pq.rowA] using HLz.out, by simpa [Pq.rowA] using HAl.out⟩
      case round =>
        clear HAl HLz
        obtain ⟨a, fa, fc, ms, rfl, ha, rfl, hlen, hal⟩ := hrel
        have HLz : Hid ((P.rowZ l z ++ P.rowA l z a).length ≤ 100) := hlen
        have HAl : Hid (Al w1 wr P l n ka kc na nc ga pb fa fc ms (P.rowZ l z ++ P.rowA l z a)) := hal
        clear hlen hal
        by_cases haz : a ≤ z
        · have haz' : (a : Int) ≤ (z : Int) := by omega
          go_upto_region 9 with fail
          obtain ⟨wo2, HWo⟩ := hex wr
          rw [← HWo.out] at HAl
          rw [← HWo.out]
          clear HWo
          go_wp2
          go_loopw [6, 10] (fun ov bv wr => ∃ (b : Nat) (fa : Option Addr) (fc : Nat) (ms : List (Nat × Nat)), ov = .slice fa ms.length fc ∧ (a ≤ b ∧ b ≤ z + 1) ∧ bv = .int .i64 b ∧ (P.rowZ l z ++ P.rowA l z a ++ P.rowB l z a b).length ≤ 100 ∧ Al w1 wr P l n ka kc na nc ga pb fa fc ms (P.rowZ l z ++ P.rowA l z a ++ P.rowB l z a b)) (fun _ bv _ => z + 1 - (intOf bv).toNat)
          case atStart => exact ⟨a, fa, fc, ms, rfl, ⟨Nat.le_refl _, by omega⟩, rfl, by rw [rowB_zero, List.append_nil]; exact HLz.out, by rw [rowB_zero, List.append_nil]; exact HAl.out⟩
          case round =>
            clear HAl HLz
            obtain ⟨b, fa, fc, ms, rfl, hb, rfl, hlen, hal⟩ := hrel
            obtain ⟨S, HS⟩ := hex (P.rowZ l z ++ P.rowA l z a ++ P.rowB l z a b)
            rw [← HS.out] at hlen hal
            have HLz : Hid (S.length ≤ 100) := hlen
            have HAl : Hid (Al w1 wr P l n ka kc na nc ga pb fa fc ms S) := hal
            have HMl : Hid (ms.length = S.length) := hal.lst.len
            clear hal
            have HS1 : Hid (P.rowZ l z ++ P.rowA l z a ++ P.rowB l z a (b + 1) = S ++ P.candK l z a b) := by show _ = _; rw [rowB_succ _ _ _ _ _ hb.1, ← List.append_assoc, ← HS.out]
            by_cases hbz : b ≤ z
            · have hbz' : (b : Int) ≤ (z : Int) := by omega
              go_upto_block 6 with fail
              obtain ⟨wi, HWi⟩ := hex wr
              go_cut [11] (fun s wx => (s = .slice none 0 0 ∧ wx = wr ∧ P.candK l z a b = []) ∨ ∃ mb f, s = .slice (some ⟨mb, 0, none⟩) n n ∧ Row wx 3 1 (some ⟨mb, 0, none⟩) n n (natV f) ∧ Below wr.heap.size wr wx ∧ wr.heap.size ≤ mb ∧ CandP P l n z a b f)
              case first =>
                by_cases c1 : n = 1
                · have q1 : ((n : Int) == (1 : Int)) = true := by rw [beq_iff_eq]; omega
                  have q2 : ((n : Int) == (2 : Int)) = false := by rw [beq_eq_false_iff_ne]; omega
                  have q3 : ((n : Int) == (3 : Int)) = false := by rw [beq_eq_false_iff_ne]; omega
                  by_cases ca : a = z
                  · have qa : ((a : Int) == (z : Int)) = true := by rw [beq_iff_eq]; omega
                    by_cases cb : b = z
                    · have qb : ((b : Int) == (z : Int)) = true := by rw [beq_iff_eq]; omega
                      have HCd : Hid (CandP P l n z a b [z]) := by show CandP _ _ _ _ _ _ _; rw [c1]; exact cand1 (by rw [HP.out.2.2.2.1]; exact c1) (by rw [← HP.out.2.2.2.2]; omega) ca cb
                      have hnn : n = [z].length := c1
                      have HNN : Hid (n = 1) := c1
                      clear c1 ca cb
                      have HRw : Hid (Row (wr.alloc (.cells (natV [z]).toArray 3)) 3 1 (some ⟨wr.heap.size, 0, none⟩) n n (natV [z])) := by have := lit_row wr [z] (by simp); show Row _ _ _ _ _ _ _; rw [show n = [z].length from hnn]; exact this
                      clear hnn
                      go_wp2
                      go_meet
                      case rel => exact Or.inr ⟨wr.heap.size, [z], by first | rfl | (rw [HNN.out]; first | done | rfl), HRw.out, (Below.refl _ _).alloc (Nat.le_refl _) _, Nat.le_refl _, HCd.out⟩
                    · have qb : ((b : Int) == (z : Int)) = false := by rw [beq_eq_false_iff_ne]; omega
                      have HCn : Hid (P.candK l z a b = []) := candN (by rw [HP.out.2.2.2.1]; omega) (by rw [HP.out.2.2.2.1]; omega) (by rw [HP.out.2.2.2.1]; omega)
                      clear c1 ca cb
                      go_wp2
                      go_meet
                      case rel => exact Or.inl ⟨rfl, rfl, HCn.out⟩
                  · have qa : ((a : Int) == (z : Int)) = false := by rw [beq_eq_false_iff_ne]; omega
                    have HCn : Hid (P.candK l z a b = []) := candN (by rw [HP.out.2.2.2.1]; omega) (by rw [HP.out.2.2.2.1]; omega) (by rw [HP.out.2.2.2.1]; omega)
                    clear c1 ca
                    go_wp2
                    go_meet
                    case rel => exact Or.inl ⟨rfl, rfl, HCn.out⟩
                · by_cases c2 : n = 2
                  · have q1 : ((n : Int) == (1 : Int)) = false := by rw [beq_eq_false_iff_ne]; omega
                    have q2 : ((n : Int) == (2 : Int)) = true := by rw [beq_iff_eq]; omega
                    have q3 : ((n : Int) == (3 : Int)) = false := by rw [beq_eq_false_iff_ne]; omega
                    by_cases ca : a < z
                    · have qa : (a : Int) < (z : Int) := by omega
                      by_cases cb : b = z
                      · have qb : ((b : Int) == (z : Int)) = true := by rw [beq_iff_eq]; omega
                        have HCd : Hid (CandP P l n z a b [a, z]) := by show CandP _ _ _ _ _ _ _; rw [c2]; exact cand2 (by rw [HP.out.2.2.2.1]; exact c2) (by rw [← HP.out.2.2.2.2]; omega) ca cb
                        have hnn : n = [a, z].length := c2
                        have HNN : Hid (n = 2) := c2
                        clear c2 cb
                        have HRw : Hid (Row (wr.alloc (.cells (natV [a, z]).toArray 3)) 3 1 (some ⟨wr.heap.size, 0, none⟩) n n (natV [a, z])) := by have := lit_row wr [a, z] (by simp); show Row _ _ _ _ _ _ _; rw [show n = [a, z].length from hnn]; exact this
                        clear hnn
                        go_wp2
                        go_meet
                        case rel => exact Or.inr ⟨wr.heap.size, [a, z], by first | rfl | (rw [HNN.out]; first | done | rfl), HRw.out, (Below.refl _ _).alloc (Nat.le_refl _) _, Nat.le_refl _, HCd.out⟩
                      · have qb : ((b : Int) == (z : Int)) = false := by rw [beq_eq_false_iff_ne]; omega
                        have HCn : Hid (P.candK l z a b = []) := candN (by rw [HP.out.2.2.2.1]; omega) (by rw [HP.out.2.2.2.1]; omega) (by rw [HP.out.2.2.2.1]; omega)
                        clear c2 cb
                        go_wp2
                        go_meet
                        case rel => exact Or.inl ⟨rfl, rfl, HCn.out⟩
                    · have qa : ¬ (a : Int) < (z : Int) := by omega
                      have qad : decide ((a : Int) < (z : Int)) = false := by simpa using qa
                      have HCn : Hid (P.candK l z a b = []) := candN (by rw [HP.out.2.2.2.1]; omega) (by rw [HP.out.2.2.2.1]; omega) (by rw [HP.out.2.2.2.1]; omega)
                      clear c2
                      go_wp2
                      go_meet
                      case rel => exact Or.inl ⟨rfl, rfl, HCn.out⟩
                  · by_cases c3 : n = 3
                    · have q1 : ((n : Int) == (1 : Int)) = false := by rw [beq_eq_false_iff_ne]; omega
                      have q2 : ((n : Int) == (2 : Int)) = false := by rw [beq_eq_false_iff_ne]; omega
                      have q3 : ((n : Int) == (3 : Int)) = true := by rw [beq_iff_eq]; omega
                      by_cases ca : a < b
                      · have qa : (a : Int) < (b : Int) := by omega
                        by_cases cb : b < z
                        · have qb : (b : Int) < (z : Int) := by omega
                          have HCd : Hid (CandP P l n z a b [a, b, z]) := by show CandP _ _ _ _ _ _ _; rw [c3]; exact cand3 (by rw [HP.out.2.2.2.1]; exact c3) (by rw [← HP.out.2.2.2.2]; omega) ca cb
                          have hnn : n = [a, b, z].length := c3
                          have HNN : Hid (n = 3) := c3
                          clear c3
                          have HRw : Hid (Row (wr.alloc (.cells (natV [a, b, z]).toArray 3)) 3 1 (some ⟨wr.heap.size, 0, none⟩) n n (natV [a, b, z])) := by have := lit_row wr [a, b, z] (by simp); show Row _ _ _ _ _ _ _; rw [show n = [a, b, z].length from hnn]; exact this
                          clear hnn
                          go_wp2
                          go_meet
                          case rel => exact Or.inr ⟨wr.heap.size, [a, b, z], by first | rfl | (rw [HNN.out]; first | done | rfl), HRw.out, (Below.refl _ _).alloc (Nat.le_refl _) _, Nat.le_refl _, HCd.out⟩
                        · have qb : ¬ (b : Int) < (z : Int) := by omega
                          have qbd : decide ((b : Int) < (z : Int)) = false := by simpa using qb
                          have HCn : Hid (P.candK l z a b = []) := candN (by rw [HP.out.2.2.2.1]; omega) (by rw [HP.out.2.2.2.1]; omega) (by rw [HP.out.2.2.2.1]; omega)
                          clear c3
                          go_wp2
                          go_meet
                          case rel => exact Or.inl ⟨rfl, rfl, HCn.out⟩
                      · have qa : ¬ (a : Int) < (b : Int) := by omega
                        have qad : decide ((a : Int) < (b : Int)) = false := by simpa using qa
                        have HCn : Hid (P.candK l z a b = []) := candN (by rw [HP.out.2.2.2.1]; omega) (by rw [HP.out.2.2.2.1]; omega) (by rw [HP.out.2.2.2.1]; omega)
                        clear c3
                        go_wp2
                        go_meet
                        case rel => exact Or.inl ⟨rfl, rfl, HCn.out⟩
                    · have q1 : ((n : Int) == (1 : Int)) = false := by rw [beq_eq_false_iff_ne]; omega
                      have q2 : ((n : Int) == (2 : Int)) = false := by rw [beq_eq_false_iff_ne]; omega
                      have q3 : ((n : Int) == (3 : Int)) = false := by rw [beq_eq_false_iff_ne]; omega
                      have HCn : Hid (P.candK l z a b = []) := candN (by rw [HP.out.2.2.2.1]; omega) (by rw [HP.out.2.2.2.1]; omega) (by rw [HP.out.2.2.2.1]; omega)
                      go_wp2
                      go_meet
                      case rel => exact Or.inl ⟨rfl, rfl, HCn.out⟩
              case rest =>
                rcases hcut with ⟨rfl, hwx, hcn⟩ | ⟨mb, f, rfl, hrow, hbx, hmb, hcd⟩
                · have HA2 : Hid (Al w1 wc P l n ka kc na nc ga pb fa fc ms (P.rowZ l z ++ P.rowA l z a ++ P.rowB l z a (b + 1))) := by show Al _ _ _ _ _ _ _ _ _ _ _ _ _ _ _; rw [HS1.out, hcn, List.append_nil, hwx]; exact HAl.out
                  have HL2 : Hid ((P.rowZ l z ++ P.rowA l z a ++ P.rowB l z a (b + 1)).length ≤ 100) := by show _ ≤ _; rw [HS1.out, hcn, List.append_nil]; exact HLz.out
                  clear hcn hwx HAl HS1
                  go_wp2
                  go_roundw
                  case rel => first | exact ⟨b + 1, fa, fc, ms, rfl, ⟨by omega, by omega⟩, by go_num, HL2.out, HA2.out⟩ | ((repeat apply Exists.intro); exact ⟨⟨b + 1, fa, fc, ms, rfl, ⟨by omega, by omega⟩, by go_num, HL2.out, HA2.out⟩, rfl⟩)
                  case measure => simp [intOf]; omega
                · have HA2 : Hid (Al w1 wc P l n ka kc na nc ga pb fa fc ms S ∧ some mb ∉ (bk fa :: ms.map fun m => some m.1) ∧ w1.heap.size ≤ mb) := ⟨HAl.out.below hbx, fun e => by have := HAl.out.lst.lt mb e; omega, Nat.le_trans HAl.out.bel.size hmb⟩
                  have HRf : Hid (Row wc 3 1 (some ⟨mb, 0, none⟩) n n (natV f)) := hrow
                  have HCd : Hid (CandP P l n z a b f) := hcd
                  clear hrow hbx hmb hcd HAl HWi
                  have hmt : Calls Tryd.prog 60 #[.agg #[.slice ka n kc, .slice na n nc, .bool P.sm, .int .i64 P.wn], .slice ga nl gc, .slice (some ⟨mb, 0, none⟩) n n] wc fun e w' => ∃ r, e = .returned (.bool r) ∧ (r = true ↔ P.M l f) ∧ Below wc.heap.size wc w' := by
                    rw [HP.out.2.2.2.2]
                    have hcd := HCd.out
                    have hn1 := hcd.1.1
                    · refine match_any P l f n ka kc na nc ga gc (some ⟨mb, 0, none⟩) n wc hcd.1.2 hcd.1.1 h3 HTs.out.2 hcd.2.1 hcd.2.2.1 HTs.out.1 HA2.out.1.kd HA2.out.1.nt HA2.out.1.ev ?_
                      intro k hk
                      obtain ⟨g, hg, _, _, hc, _⟩ := HRf.out.form (by omega)
                      simp only [Option.some.injEq, Addr.mk.injEq, and_true] at hg
                      refine ⟨mb, rfl, HRf.out.lt rfl, ?_⟩
                      have := hc k (by omega)
                      rw [hg, this]
                      have hkf : k < f.length := by rw [hcd.1.2]; exact hk
                      simp [natV, atN, List.getElem?_eq_getElem hkf]
                  have p0 := HA2.out.1.pat.cell 0
                  have p1 := HA2.out.1.pat.cell 1
                  have p2 := HA2.out.1.pat.cell 2
                  have p3 := HA2.out.1.pat.cell 3
                  simp only [List.getElem?_cons_zero, List.getElem?_cons_succ] at p0 p1 p2 p3
                  go_upto_region 21 with (go_at_call 60; refine hmt.mono ?_; rintro e w3 ⟨r, rfl, hr, hb3⟩)
                  have HA3 : Hid (Al w1 w3 P l n ka kc na nc ga pb fa fc ms S) := HA2.out.1.below hb3
                  have HR3 : Hid (Row w3 3 1 (some ⟨mb, 0, none⟩) n n (natV f)) := HRf.out.kept (below_kept hb3 (fun _ => False)) (fun _ _ e => e)
                  have HMr : Hid (r = true ↔ P.M l f) := hr
                  have HNe : Hid (some mb ∉ (bk fa :: ms.map fun m => some m.1) ∧ w1.heap.size ≤ mb) := HA2.out.2
                  clear hmt hr hb3 HA2 HRf p0 p1 p2 p3
                  cases r with
                  | false =>
                    have hcn : P.candK l z a b = [] := HCd.out.2.2.2.2 (fun h => by have := HMr.out.2 h; cases this)
                    have HA4 : Hid (Al w1 w3 P l n ka kc na nc ga pb fa fc ms (P.rowZ l z ++ P.rowA l z a ++ P.rowB l z a (b + 1))) := by show Al _ _ _ _ _ _ _ _ _ _ _ _ _ _ _; rw [HS1.out, hcn, List.append_nil]; exact HA3.out
                    have HL2 : Hid ((P.rowZ l z ++ P.rowA l z a ++ P.rowB l z a (b + 1)).length ≤ 100) := by show _ ≤ _; rw [HS1.out, hcn, List.append_nil]; exact HLz.out
                    clear hcn HA3 HS1
                    go_wp2
                    go_roundw
                    case rel => first | exact ⟨b + 1, fa, fc, ms, rfl, ⟨by omega, by omega⟩, by go_num, HL2.out, HA4.out⟩ | ((repeat apply Exists.intro); exact ⟨⟨b + 1, fa, fc, ms, rfl, ⟨by omega, by omega⟩, by go_num, HL2.out, HA4.out⟩, rfl⟩)
                    case measure => simp [intOf]; omega
                  | true =>
                    have HCf : Hid (P.candK l z a b = [f]) := HCd.out.2.2.2.1 (HMr.out.1 rfl)
                    by_cases hfull : ms.length = 100
                    · have hfb : ((ms.length : Int) == 100) = true := by rw [beq_iff_eq]; omega
                      have HOut : Hid (BB.take 100 = S ∧ true = decide (100 < BB.length)) := by
                        obtain ⟨T, hT⟩ := HMo.out z a (b + 1) (by omega) (by omega) haz hzl
                        rw [HS1.out, HCf.out] at hT
                        have h100 : S.length = 100 := by have := HMl.out; omega
                        rw [hT]
                        refine ⟨?_, ?_⟩
                        · rw [List.append_assoc, List.take_append_of_le_length (by omega), List.take_of_length_le (by omega)]
                        · symm; rw [decide_eq_true_eq]; simp only [List.length_append, List.length_cons, List.length_nil]; omega
                      clear hfull
                      go_wp2
                      go_ret2
                      refine ⟨fa, fc, ms, ?_, ?_, ?_⟩
                      · rw [← HOut.out.2]; rfl
                      · rw [HOut.out.1]; exact HA3.out.lst.mono HB1.out.1.size
                      · exact HB1.out.1.trans (HA3.out.bel.mono HB1.out.1.size)
                    · have hfb : ((ms.length : Int) == 100) = false := by rw [beq_eq_false_iff_ne]; omega
                      obtain ⟨vals, HVs⟩ := hex (ms.map fun m => Value.slice (some ⟨m.1, 0, none⟩) n m.2)
                      have HFr : Hid (Row w3 28 1 fa ms.length fc vals) := by show Row _ _ _ _ _ _ _; rw [HVs.out]; exact HA3.out.lst.row
                      have hml : ms.length ≤ 99 := by have := HMl.out; omega
                      clear hfull
                      go_wp2_with (at_builtin; refine wpList_append_lies _ rfl _ _ _ rfl 0 28 j0 _ 1 24 Tryd.underlying54 hj0 hy0 hy1 hy2 rfl (by omega) (.slice fa ms.length fc) ms.length vals rfl (ownsRow_of_heap HFr.out (fun j hj => Below.heap_alloc _ _ _ hj)) ⟨w3.heap.size, 0, none⟩ 1 1 [.slice (some ⟨mb, 0, none⟩) n n] rfl rfl (news_new _ _ (by simp) [.slice (some ⟨mb, 0, none⟩) n n] 28) (by simp [Value.oneCell']) (by omega) (by unfold maxLen; omega) (by omega) (by simp) (w3.heap.size + 1) (by simp) ?_; intro g2 cap w4 hown1 hgrow hat hlt1; rw [bk_own] at hgrow hat)
                      have HA5 : Hid (Al w1 w4 P l n ka kc na nc ga pb (some ⟨g2, 0, none⟩) cap (ms ++ [(mb, n)]) (P.rowZ l z ++ P.rowA l z a ++ P.rowB l z a (b + 1))) := by
                        show Al _ _ _ _ _ _ _ _ _ _ _ _ _ _ _
                        rw [HS1.out, HCf.out]
                        have hba : Below w3.heap.size w3 (w3.alloc (.cells #[.slice (some ⟨mb, 0, none⟩) n n] 28)) := (Below.refl _ _).alloc (Nat.le_refl _) _
                        have K : Kept (fun k => bk fa = some k) w3 w4 := ((Kept.refl _ w3).below hba).grown hgrow (fun k _ e => e)
                        have hup : ∀ k, bk fa = some k → w1.heap.size ≤ k := fun k e => HA3.out.lst.up k (by simp [e])
                        have hb4 : Below w1.heap.size w1 w4 := kept_toBelow HA3.out.bel K hup
                        have hpl := HB1.out.2.lt
                        rw [← HPb.out] at hpl
                        have hbl := hb4
                        refine ⟨hb4, ?_, ?_, ?_, ?_, ?_⟩
                        · exact HA3.out.pat.kept K (fun e => by have := hup pb e; omega)
                        · exact (HP.out.1.below HB1.out.1).below hb4
                        · exact (HP.out.2.1.below HB1.out.1).below hb4
                        · exact (HP.out.2.2.1.belowW HB1.out.1).belowW hb4
                        · exact HA3.out.lst.app HR3.out HCd.out.1.2 HNe.out.2 HNe.out.1 hba (by rw [← HVs.out]; exact hown1) hgrow (hat.imp id (fun e => by simp; omega)) HA3.out.bel.size
                      have HL2 : Hid ((P.rowZ l z ++ P.rowA l z a ++ P.rowB l z a (b + 1)).length ≤ 100) := by show _ ≤ _; rw [HS1.out, HCf.out]; simp only [List.length_append, List.length_cons, List.length_nil]; have := HMl.out; omega
                      clear hown1 hgrow hat hlt1 HA3 HR3 HFr HS1
                      go_roundw
                      case rel => first | exact ⟨b + 1, some ⟨g2, 0, none⟩, cap, ms ++ [(mb, n)], by simp, ⟨by omega, by omega⟩, by go_num, HL2.out, HA5.out⟩ | ((repeat apply Exists.intro); exact ⟨⟨b + 1, some ⟨g2, 0, none⟩, cap, ms ++ [(mb, n)], by simp, ⟨by omega, by omega⟩, by go_num, HL2.out, HA5.out⟩, rfl⟩)
                      case measure => simp [intOf]; omega
            · have hbz' : ¬ (b : Int) ≤ (z : Int) := by omega
              have HA2 : Hid (Al w1 wr P l n ka kc na nc ga pb fa fc ms (P.rowZ l z ++ P.rowA l z (a + 1))) := by show Al _ _ _ _ _ _ _ _ _ _ _ _ _ _ _; have := HAl.out; rw [HS.out, show b = z + 1 by omega, List.append_assoc, ← rowA_succ] at this; exact this
              have HL2 : Hid ((P.rowZ l z ++ P.rowA l z (a + 1)).length ≤ 100) := by show _ ≤ _; have := HLz.out; rw [HS.out, show b = z + 1 by omega, List.append_assoc, ← rowA_succ] at this; exact this
              clear HAl HS1 hlen
              go_wp2
              go_roundw
              case rel => first | exact ⟨a + 1, fa, fc, ms, rfl, by omega, by go_num, HL2.out, HA2.out⟩ | ((repeat apply Exists.intro); exact ⟨⟨a + 1, fa, fc, ms, rfl, by omega, by go_num, HL2.out, HA2.out⟩, rfl⟩)
              case measure => simp [intOf]; omega
        · have haz' : ¬ (a : Int) ≤ (z : Int) := by omega
          have HA2 : Hid (Al w1 wr P l n ka kc na nc ga pb fa fc ms (P.rowZ l (z + 1))) := by show Al _ _ _ _ _ _ _ _ _ _ _ _ _ _ _; have := HAl.out; rw [show a = z + 1 by omega, ← rowZ_succ] at this; exact this
          have HL2 : Hid ((P.rowZ l (z + 1)).length ≤ 100) := by show _ ≤ _; have := HLz.out; rw [show a = z + 1 by omega, ← rowZ_succ] at this; exact this
          clear HAl
          go_wp2
          go_roundw
          case rel => first | exact ⟨z + 1, fa, fc, ms, rfl, by omega, by go_num, HL2.out, HA2.out⟩ | ((repeat apply Exists.intro); exact ⟨⟨z + 1, fa, fc, ms, rfl, by omega, by go_num, HL2.out, HA2.out⟩, rfl⟩)
          case measure => simp [intOf]; omega
    · have hzl' : ¬ (z : Int) < (nl : Int) := by omega
      have HOut : Hid (BB.take 100 = P.rowZ l z ∧ false = decide (100 < BB.length)) := by
        have hh := HLz.out
        rw [HBe.out, show nl = z by omega]
        exact ⟨List.take_of_length_le hh, by symm; rw [decide_eq_false_iff_not]; omega⟩
      go_wp2
      go_ret2
      refine ⟨fa, fc, ms, ?_, ?_, ?_⟩
      · rw [← HOut.out.2]; rfl
      · rw [HOut.out.1]; exact HAl.out.lst.mono HB1.out.1.size
      · exact HB1.out.1.trans (HAl.out.bel.mono HB1.out.1.size)
end Go.Proofs.YtghcololkgeoeabDoor
