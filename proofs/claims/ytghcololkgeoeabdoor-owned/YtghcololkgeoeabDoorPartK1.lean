import Derived.Test.YtghcololkgeoeabDoorPartK0
import Derived.Test.YtghcololkgeoeabDoorPartF3
import Derived.Lib.LaidTab
import Derived.Lib.AppendIntMem
import Derived.Lib.ItoaLen
import Derived.Test.YtghcololkgeoeabDoorPartF5
namespace Go.Proofs.YtghcololkgeoeabDoor
open Go.RowKit
set_option linter.unusedVariables false
set_option linter.unusedSimpArgs false
attribute [local go_sem ↓] Go.wp_at_zero Go.wp_at_succ

/-! ### the text of a pattern -/
def tab10 (w : World) : Prop := Lib.TabIs Tryd.prog w "internal/strconv.uint64pow10" .u64 Lib.pow10Tab
def oneByte (k : Int) : UInt8 := UInt8.ofNat k.toNat
theorem oneByte_val {k : Int} (h : 0 ≤ k ∧ k ≤ 255) : ((oneByte k).toNat : Int) = k := by
  unfold oneByte
  rw [UInt8.toNat_ofNat']
  omega
def stepBytes (p : Int × Int) : List UInt8 := (if 0 < p.2 then [33, oneByte p.2] else []) ++ [oneByte p.1]
def txtAt (l : List (Int × Int)) (i : Nat) : List UInt8 := (l.take i).flatMap stepBytes
theorem txtAt_succ {l : List (Int × Int)} {i : Nat} (h : i < l.length) : txtAt l (i + 1) = txtAt l i ++ stepBytes l[i] := by
  unfold txtAt
  rw [List.take_add_one, List.getElem?_eq_getElem h, List.flatMap_append]
  congr 1
  simp [Option.toList]
theorem txtAt_len (l : List (Int × Int)) (i : Nat) : (txtAt l i).length ≤ 3 * i := by
  have : ∀ l : List (Int × Int), (l.flatMap stepBytes).length ≤ 3 * l.length := by
    intro l
    induction l with
    | nil => simp
    | cons x l ih =>
      have h3 : (stepBytes x).length ≤ 3 := by unfold stepBytes; split <;> simp
      simp only [List.flatMap_cons, List.length_append, List.length_cons]; omega
  have h1 := this (l.take i)
  simp only [List.length_take] at h1
  unfold txtAt
  omega
def patPairs (raw : Int) : List (Int × Int) := (patKinds raw).zip (patNots raw)
theorem patPairs_len (raw : Int) : (patPairs raw).length = patN raw := by
  unfold patPairs
  have := patAt_len (patK0 raw) (patN raw)
  simp [patKinds, patNots, this.1, this.2]
def patText (raw : Int) : List UInt8 := if patN raw = 0 then [] else txtAt (patPairs raw) (patN raw) ++ (if patIsOne raw then [61] else []) ++ [64] ++ Lib.itoa (patWindow raw)
theorem patAt_vals {k0 : Int} (h : 0 ≤ k0 ∧ k0 ≤ 1125899906842624) (i : Nat) : (∀ x ∈ (patAt k0 i).1.1, 65 ≤ x ∧ x ≤ 67) ∧ (∀ x ∈ (patAt k0 i).1.2, x = 0 ∨ (65 ≤ x ∧ x ≤ 67)) := by
  induction i with
  | zero => simp [patAt]
  | succ i ih =>
    have hp := patAt_pos h i
    refine ⟨?_, ?_⟩
    · intro x hx
      simp only [patAt, List.mem_append, List.mem_singleton] at hx
      rcases hx with hx | hx
      · exact ih.1 x hx
      · omega
    · intro x hx
      simp only [patAt, List.mem_append, List.mem_singleton] at hx
      rcases hx with hx | hx
      · exact ih.2 x hx
      · split at hx <;> omega
theorem patK0_range (raw : Int) : 0 ≤ patK0 raw ∧ patK0 raw ≤ 1125899906842624 := by
  have := pk_range (c := raw) (n := 1125899906842624) (by omega)
  unfold patK0; omega
theorem patN_le (raw : Int) : patN raw ≤ 3 := by
  have := pk_range (c := raw) (n := 1125899906842624) (by omega)
  unfold patN; omega
theorem ints_at {l : List Int} {i : Nat} (h : i < l.length) : (ints l)[i]? = some (.int .i64 l[i]) := by simp [ints, h]
/-- the world while the text is made -/
structure TxtK (w wr : World) (raw : Int) (ka : Option Addr) (kc : Nat) (na : Option Addr) (nc : Nat) (i : Nat) (ba : Option Addr) (l : List UInt8) (bc : Nat) : Prop where
  box : Blk wr w.heap.size 30 (pat4 ka (patN raw) kc na (patN raw) nc (patIsOne raw) (patWindow raw))
  row : Row wr 5 1 ba l.length bc (bytesV l)
  off : ∀ g, bk ba = some g → w.heap.size + 1 ≤ g
  bel : Below w.heap.size w wr
theorem TxtK.app {w wr w1 : World} {raw : Int} {ka na ba : Option Addr} {kc nc i bc g cap j : Nat} {l m : List UInt8} {o : Obj} (h : TxtK w wr raw ka kc na nc i ba l bc)
    (hown : w1.ownsRow 0 5 1 (.slice (some ⟨g, 0, none⟩) (l.length + m.length) cap) (l.length + m.length) (bytesV l ++ bytesV m))
    (hg : (wr.alloc o).grownBy w1 (bk ba)) (hat : bk ba = some g ∨ g = wr.heap.size + 1) : TxtK w w1 raw ka kc na nc j (some ⟨g, 0, none⟩) (l ++ m) cap := by
  have hbl := h.box.lt
  refine ⟨(h.box.alloc o).grown hg (fun e => by have := h.off _ e; omega), ?_, ?_, ?_⟩
  · rw [List.length_append, show bytesV (l ++ m) = bytesV l ++ bytesV m by simp [bytesV]]; exact hown
  · intro x e
    simp only [bk, Option.map_some, Option.some.injEq] at e
    subst e
    rcases hat with e | e
    · exact h.off _ e
    · omega
  · have b1 : Below w.heap.size w (wr.alloc o) := h.bel.alloc (by omega) o
    exact b1.grown hg (by simp; omega) (fun k e => by have := h.off k e; omega)
set_option maxRecDepth 100000 in
set_option maxHeartbeats 4000000 in
theorem text_any (raw : Int) (ka : Option Addr) (kc : Nat) (na : Option Addr) (nc : Nat) (w : World) (hk : Row w 3 1 ka (patN raw) kc (ints (patKinds raw))) (hnr : Row w 3 1 na (patN raw) nc (ints (patNots raw))) (htab : ∀ u, Below w.heap.size w u → tab10 u) :
    Calls Tryd.prog 24 #[.agg #[.slice ka (patN raw) kc, .slice na (patN raw) nc, .bool (patIsOne raw), .int .i64 (patWindow raw)]] w fun e w' => e = .returned (.string ⟨(patText raw).toArray⟩) ∧ Below w.heap.size w w' := by
  obtain ⟨i0, hi0, hz0, hz1, hz2⟩ := info_parts Tryd.infoU8
  have HT : Hid (∀ u, Below w.heap.size w u → tab10 u) := htab
  clear htab
  have hwin : 0 ≤ patWindow raw ∧ patWindow raw ≤ 1099511627776 := by
    have := patAt_pos (patK0_range raw) (patN raw)
    unfold patWindow patRest
    split <;> omega
  have hlens := patAt_len (patK0 raw) (patN raw)
  have hvals := patAt_vals (patK0_range raw) (patN raw)
  have hn3 := patN_le raw
  by_cases hz : patN raw = 0
  · have hz' : ((patN raw : Nat) : Int) = 0 := by omega
    have e : patText raw = [] := by unfold patText; rw [if_pos hz]
    rw [e]
    go_enter Tryd.func24, Tryd.ntmps24
    go_wp2
    go_ret
    exact ⟨rfl, (Below.refl _ _).alloc (Nat.le_refl _) _⟩
  · have HZ : Hid (patN raw ≠ 0) := hz
    obtain ⟨kb, hkb, _, _, hkc, _⟩ := hk.form (by omega)
    obtain ⟨nb, hnb, _, _, hncc, _⟩ := hnr.form (by omega)
    subst hkb hnb
    have hkl := hk.lt (a := some ⟨kb, 0, none⟩) rfl
    have hnl := hnr.lt (a := some ⟨nb, 0, none⟩) rfl
    obtain ⟨n, HN⟩ := hex (patN raw)
    obtain ⟨one, HO⟩ := hex (patIsOne raw)
    obtain ⟨win, HWn⟩ := hex (patWindow raw)
    have hn3' : n ≤ 3 := by rw [HN.out]; exact hn3
    have hne : ¬ ((n : Nat) : Int) = 0 := by rw [HN.out]; omega
    have hne' : (((n : Nat) : Int) == 0) = false := by simpa using hne
    rw [← HN.out, ← HO.out, ← HWn.out]
    rw [← HWn.out] at hwin
    have HPl : Hid ((patPairs raw).length = n) := by show _ = _; rw [HN.out]; exact patPairs_len raw
    have HKs : Hid (∀ i (hi : i < n), w.cell? ⟨kb, i, none⟩ = some (.int .i64 ((patPairs raw)[i]'(by rw [HPl.out]; exact hi)).1) ∧ w.cell? ⟨nb, i, none⟩ = some (.int .i64 ((patPairs raw)[i]'(by rw [HPl.out]; exact hi)).2) ∧ (65 ≤ ((patPairs raw)[i]'(by rw [HPl.out]; exact hi)).1 ∧ ((patPairs raw)[i]'(by rw [HPl.out]; exact hi)).1 ≤ 67) ∧ (((patPairs raw)[i]'(by rw [HPl.out]; exact hi)).2 = 0 ∨ (65 ≤ ((patPairs raw)[i]'(by rw [HPl.out]; exact hi)).2 ∧ ((patPairs raw)[i]'(by rw [HPl.out]; exact hi)).2 ≤ 67))) := by
      intro i hi
      have h1 : i < (patKinds raw).length := by unfold patKinds; rw [hlens.1, ← HN.out]; exact hi
      have h2 : i < (patNots raw).length := by unfold patNots; rw [hlens.2, ← HN.out]; exact hi
      have e1 : ((patPairs raw)[i]'(by rw [HPl.out]; exact hi)) = ((patKinds raw)[i], (patNots raw)[i]) := by simp [patPairs]
      rw [e1]
      refine ⟨?_, ?_, hvals.1 _ (List.getElem_mem h1), hvals.2 _ (List.getElem_mem h2)⟩
      · rw [hkc i (by rw [← HN.out]; omega), ints_at h1]
      · rw [hncc i (by rw [← HN.out]; omega), ints_at h2]
    clear hkc hncc hvals hlens hk hnr
    go_enter Tryd.func24, Tryd.ntmps24
    go_wp2
    go_loopw [3, 4] (fun bv iv wr => ∃ (i : Nat) (ba : Option Addr) (bc : Nat), i ≤ n ∧ bv = .slice ba (txtAt (patPairs raw) i).length bc ∧ iv = .int .i64 i ∧ TxtK w wr raw (some ⟨kb, 0, none⟩) kc (some ⟨nb, 0, none⟩) nc i ba (txtAt (patPairs raw) i) bc) (fun _ iv _ => n - (intOf iv).toNat)
    case atStart =>
      refine ⟨0, none, 0, Nat.zero_le _, rfl, rfl, ⟨?_, by simpa [txtAt, bytesV] using Row.nil _ _ _, (fun g e => by cases e), (Below.refl _ _).alloc (Nat.le_refl _) _⟩⟩
      rw [← HN.out, ← HO.out, ← HWn.out]
      exact blk_alloc _ _ _
    case round =>
      obtain ⟨i, ba, bc, hin, rfl, rfl, hk⟩ := hrel
      have HK : Hid (TxtK w wr raw (some ⟨kb, 0, none⟩) kc (some ⟨nb, 0, none⟩) nc i ba (txtAt (patPairs raw) i) bc) := hk
      clear hk
      have HBx : Hid (Blk wr w.heap.size 30 (pat4 (some ⟨kb, 0, none⟩) n kc (some ⟨nb, 0, none⟩) n nc one win)) := by show Blk _ _ _ _; rw [HN.out, HO.out, HWn.out]; exact HK.out.box
      have p0 := HBx.out.cell 0
      have p1 := HBx.out.cell 1
      have p2 := HBx.out.cell 2
      have p3 := HBx.out.cell 3
      simp only [pat4, List.getElem?_cons_zero, List.getElem?_cons_succ] at p0 p1 p2 p3
      have hll : (txtAt (patPairs raw) i).length ≤ 9 := by have := txtAt_len (patPairs raw) i; omega
      have HRow : Hid (Row wr 5 1 ba (txtAt (patPairs raw) i).length bc (bytesV (txtAt (patPairs raw) i))) := HK.out.row
      by_cases hlt : i < n
      · have hlt' : (i : Int) < (n : Int) := by omega
        have hi00 : (0 : Int) ≤ (i : Int) := by omega
        obtain ⟨hc1, hc2, hr1, hr2⟩ := HKs.out i hlt
        have k1 : wr.cell? ⟨kb, i, none⟩ = _ := (HK.out.bel.cell (p := ⟨kb, i, none⟩) hkl).trans hc1
        have k2 : wr.cell? ⟨nb, i, none⟩ = _ := (HK.out.bel.cell (p := ⟨nb, i, none⟩) hnl).trans hc2
        have HS : Hid (txtAt (patPairs raw) (i + 1) = txtAt (patPairs raw) i ++ stepBytes ((patPairs raw)[i]'(by rw [HPl.out]; exact hlt))) := txtAt_succ _
        generalize ((patPairs raw)[i]'(by rw [HPl.out]; exact hlt)) = pr at *
        obtain ⟨kd, nt⟩ := pr
        simp only at k1 k2 hr1 hr2
        clear hc1 hc2
        have hwk : IntKind.u8.wrap kd = kd := by rw [IntKind.wrap_u8]; omega
        have hwn : IntKind.u8.wrap nt = nt := by rw [IntKind.wrap_u8]; omega
        by_cases hnt : 0 < nt
        · have eb : bytesV [33, oneByte nt] = [.int .u8 33, .int .u8 nt] := by simp only [bytesV, List.map_cons, List.map_nil]; rw [oneByte_val (by omega)]; rfl
          have ec : bytesV [oneByte kd] = [.int .u8 kd] := by simp only [bytesV, List.map_cons, List.map_nil]; rw [oneByte_val (by omega)]
          have HE : Hid (bytesV [33, oneByte nt] = [.int .u8 33, .int .u8 nt] ∧ bytesV [oneByte kd] = [.int .u8 kd]) := ⟨eb, ec⟩
          clear eb ec
          have HS2 : Hid (txtAt (patPairs raw) (i + 1) = (txtAt (patPairs raw) i ++ [33, oneByte nt]) ++ [oneByte kd]) := by show _ = _; rw [HS.out]; unfold stepBytes; rw [if_pos hnt]; simp
          go_upto_region 9 with (at_builtin; refine wpList_append_lies _ rfl _ _ _ rfl 0 5 i0 _ 1 1 Tryd.underlying90 hi0 hz0 hz1 hz2 rfl (by omega) (.slice ba (txtAt (patPairs raw) i).length bc) (txtAt (patPairs raw) i).length (bytesV (txtAt (patPairs raw) i)) rfl (ownsRow_of_heap HRow.out (fun j hj => Below.heap_alloc _ _ _ hj)) ⟨wr.heap.size, 0, none⟩ 2 2 [.int .u8 33, .int .u8 nt] rfl rfl (news_new _ _ (by simp) [.int .u8 33, .int .u8 nt] 5) (by simp [Value.oneCell']) (by omega) (by unfold maxLen; omega) (by omega) (by simp) (wr.heap.size + 1) (by simp) ?_; intro gwr cwr wwr hownwr hgrowwr hatwr hltwr; rw [bk_own] at hgrowwr hatwr)
          have HK1 : Hid (TxtK w wwr raw (some ⟨kb, 0, none⟩) kc (some ⟨nb, 0, none⟩) nc i (some ⟨gwr, 0, none⟩) (txtAt (patPairs raw) i ++ [33, oneByte nt]) cwr) := HK.out.app (m := [33, oneByte nt]) (by rw [HE.out.1]; exact hownwr) hgrowwr hatwr
          have q1 : wwr.cell? ⟨kb, i, none⟩ = some (.int .i64 kd) := ((HK.out.bel.cell (p := ⟨kb, i, none⟩) hkl).symm.trans k1) ▸ (HK1.out.bel.cell (p := ⟨kb, i, none⟩) hkl)
          have HBx1 : Hid (Blk wwr w.heap.size 30 (pat4 (some ⟨kb, 0, none⟩) n kc (some ⟨nb, 0, none⟩) n nc one win)) := by show Blk _ _ _ _; rw [HN.out, HO.out, HWn.out]; exact HK1.out.box
          have p0 := HBx1.out.cell 0
          simp only [pat4, List.getElem?_cons_zero] at p0
          have HRow1 : Hid (Row wwr 5 1 (some ⟨gwr, 0, none⟩) (txtAt (patPairs raw) i ++ [33, oneByte nt]).length cwr (bytesV (txtAt (patPairs raw) i ++ [33, oneByte nt]))) := HK1.out.row
          have hlen2 : (txtAt (patPairs raw) i ++ [33, oneByte nt]).length = (txtAt (patPairs raw) i).length + 2 := by simp
          have hll2 : (txtAt (patPairs raw) i ++ [33, oneByte nt]).length ≤ 11 := by omega
          rw [← hlen2]
          clear hownwr hgrowwr hatwr hltwr hlen2
          obtain ⟨l2, HL2⟩ := hex (txtAt (patPairs raw) i ++ [33, oneByte nt])
          rw [← HL2.out] at HRow1 HK1 HS2 hll2 ⊢
          go_wp2_with (at_builtin; refine wpList_append_lies _ rfl _ _ _ rfl 0 5 i0 _ 1 1 Tryd.underlying90 hi0 hz0 hz1 hz2 rfl (by omega) (.slice (some ⟨gwr, 0, none⟩) (l2).length cwr) (l2).length (bytesV (l2)) rfl (ownsRow_of_heap HRow1.out (fun j hj => Below.heap_alloc _ _ _ hj)) ⟨wwr.heap.size, 0, none⟩ 1 1 [.int .u8 kd] rfl rfl (news_new _ _ (by simp) [.int .u8 kd] 5) (by simp [Value.oneCell']) (by omega) (by unfold maxLen; omega) (by omega) (by simp) (wwr.heap.size + 1) (by simp) ?_; intro gwwr cwwr wwwr hownwwr hgrowwwr hatwwr hltwwr; rw [bk_own] at hgrowwwr hatwwr)
          go_roundw
          case rel => exact ⟨i + 1, some ⟨gwwr, 0, none⟩, cwwr, by omega, by rw [HS2.out]; simp, by go_num, by rw [HS2.out]; exact HK1.out.app (m := [oneByte kd]) (by rw [HE.out.2]; exact hownwwr) hgrowwwr hatwwr⟩
          case measure => simp [intOf]; omega
        · have ec : bytesV [oneByte kd] = [.int .u8 kd] := by simp only [bytesV, List.map_cons, List.map_nil]; rw [oneByte_val (by omega)]
          have HE : Hid (bytesV [oneByte kd] = [.int .u8 kd]) := ec
          clear ec
          have HS2 : Hid (txtAt (patPairs raw) (i + 1) = txtAt (patPairs raw) i ++ [oneByte kd]) := by show _ = _; rw [HS.out]; unfold stepBytes; rw [if_neg hnt]; simp
          go_wp2_with (at_builtin; refine wpList_append_lies _ rfl _ _ _ rfl 0 5 i0 _ 1 1 Tryd.underlying90 hi0 hz0 hz1 hz2 rfl (by omega) (.slice ba (txtAt (patPairs raw) i).length bc) (txtAt (patPairs raw) i).length (bytesV (txtAt (patPairs raw) i)) rfl (ownsRow_of_heap HRow.out (fun j hj => Below.heap_alloc _ _ _ hj)) ⟨wr.heap.size, 0, none⟩ 1 1 [.int .u8 kd] rfl rfl (news_new _ _ (by simp) [.int .u8 kd] 5) (by simp [Value.oneCell']) (by omega) (by unfold maxLen; omega) (by omega) (by simp) (wr.heap.size + 1) (by simp) ?_; intro gwr cwr wwr hownwr hgrowwr hatwr hltwr; rw [bk_own] at hgrowwr hatwr)
          go_roundw
          case rel => exact ⟨i + 1, some ⟨gwr, 0, none⟩, cwr, by omega, by rw [HS2.out]; simp, by go_num, by rw [HS2.out]; exact HK.out.app (m := [oneByte kd]) (by rw [HE.out]; exact hownwr) hgrowwr hatwr⟩
          case measure => simp [intOf]; omega
      · obtain rfl : i = n := by omega
        have hge : ¬ (i : Int) < (i : Int) := by omega
        cases one with
        | true =>
          go_upto_region 12 with (at_builtin; refine wpList_append_lies _ rfl _ _ _ rfl 0 5 i0 _ 1 1 Tryd.underlying90 hi0 hz0 hz1 hz2 rfl (by omega) (.slice ba (txtAt (patPairs raw) i).length bc) (txtAt (patPairs raw) i).length (bytesV (txtAt (patPairs raw) i)) rfl (ownsRow_of_heap HRow.out (fun j hj => Below.heap_alloc _ _ _ hj)) ⟨wr.heap.size, 0, none⟩ 1 1 [.int .u8 61] rfl rfl (news_new _ _ (by simp) [.int .u8 61] 5) (by simp [Value.oneCell']) (by omega) (by unfold maxLen; omega) (by omega) (by simp) (wr.heap.size + 1) (by simp) ?_; intro gg cc ww hownw hgrow hat hlt1; rw [bk_own] at hgrow hat)
          have HK1 : Hid (TxtK w ww raw (some ⟨kb, 0, none⟩) kc (some ⟨nb, 0, none⟩) nc i (some ⟨gg, 0, none⟩) (txtAt (patPairs raw) i ++ [61]) cc) := HK.out.app (m := [61]) hownw hgrow hat
          have HBx1 : Hid (Blk ww w.heap.size 30 (pat4 (some ⟨kb, 0, none⟩) i kc (some ⟨nb, 0, none⟩) i nc true win)) := by show Blk _ _ _ _; rw [HN.out, HO.out, HWn.out]; exact HK1.out.box
          clear p0 p1 p2 p3 hownw hgrow hat hlt1 HBx
          have hlen2 : (txtAt (patPairs raw) i ++ [61]).length = (txtAt (patPairs raw) i).length + 1 := by simp
          rw [← hlen2]
          have HRf : Hid (Row ww 5 1 (some ⟨gg, 0, none⟩) (txtAt (patPairs raw) i ++ [61]).length cc (bytesV (txtAt (patPairs raw) i ++ [61]))) := HK1.out.row
          have p3 := HBx1.out.cell 3
          simp only [pat4, List.getElem?_cons_zero, List.getElem?_cons_succ] at p3
          obtain ⟨lf, HLf⟩ := hex (txtAt (patPairs raw) i ++ [61])
          rw [← HLf.out] at HRf ⊢
          have hlf : lf.length ≤ 12 := by rw [HLf.out]; omega
          have hs1 : (⟨lf.toArray⟩ : ByteArray).size = lf.length := by simp [ByteArray.size]
          have hs2 : (⟨lf.toArray⟩ ++ ⟨#[64]⟩ : ByteArray).size = lf.length + 1 := by rw [ByteArray.size_append, hs1]; rfl
          have hit := Lib.itoa_length_le win (by omega) (by omega)
          have hs3 : (⟨(Lib.itoa win).toArray⟩ : ByteArray).size = (Lib.itoa win).length := by simp [ByteArray.size]
          have hcap1 : ¬ 9223372036854775807 < (⟨lf.toArray⟩ : ByteArray).size + (⟨#[64]⟩ : ByteArray).size := by rw [hs1]; show ¬ _ < lf.length + 1; omega
          have hcap2 : ¬ 9223372036854775807 < (⟨lf.toArray⟩ ++ ⟨#[64]⟩ : ByteArray).size + (⟨(Lib.itoa win).toArray⟩ : ByteArray).size := by rw [hs2, hs3]; omega
          have hcapA : ¬ 9223372036854775807 < lf.length + 1 := by omega
          have hcapB : ¬ 9223372036854775807 < lf.length + 1 + (Lib.itoa win).length := by omega
          have HTx : Hid (patText raw = lf ++ [64] ++ Lib.itoa win) := by
            show _ = _
            unfold patText
            rw [if_neg HZ.out, ← HN.out, ← HWn.out, HLf.out, ← HO.out]
            simp
          have HSS : Hid (∀ v : World, Below ww.heap.size ww v → v.cell? ⟨w.heap.size, 3, none⟩ = some (.int .i64 win) ∧ Row v 5 1 (some ⟨gg, 0, none⟩) lf.length cc (bytesV lf)) := fun v hv => ⟨(hv.cell (p := ⟨w.heap.size, 3, none⟩) HBx1.out.lt).trans p3, HRf.out.kept (below_kept hv (fun _ => False)) (fun _ _ e => e)⟩
          refine upTo_region (fun u : World => u.cell? ⟨w.heap.size, 3, none⟩ = some (.int .i64 win) ∧ Row u 5 1 (some ⟨gg, 0, none⟩) lf.length cc (bytesV lf)) 8 8 rfl (by kernel_rfl) ?_
          have hS0 : (fun u : World => u.cell? ⟨w.heap.size, 3, none⟩ = some (.int .i64 win) ∧ Row u 5 1 (some ⟨gg, 0, none⟩) lf.length cc (bytesV lf)) ww.drew := HSS.out _ ((Below.refl _ _).drew)
          refine upTo_take2 (i := 0) (v := ?v13_0) rfl (by kernel_rfl) (by kernel_rfl) (by kernel_rfl) rfl (fun _ _ _ h => h) (by rfl) hS0 ?hy13_0 ?rest13_0
          case hy13_0 => (intro u hu; (try dsimp only at hu); go_simp; first | done | with_reducible rfl)
          (try simp only [Act.put, List.setIfInBounds_toArray, List.set_cons_zero, List.set_cons_succ, List.getElem_toArray, List.getElem_cons_succ, List.getElem_cons_zero])
          refine upTo_take2 (i := 1) (v := .string ⟨lf.toArray⟩) rfl (by kernel_rfl) (by kernel_rfl) (by kernel_rfl) rfl (fun _ _ _ h => h) (by rfl) hS0 ?hyc ?restc
          case hyc =>
            intro u hu
            have kc' := conv_line hu.2
            go_simp
          (try simp only [Act.put, List.setIfInBounds_toArray, List.set_cons_zero, List.set_cons_succ, List.getElem_toArray, List.getElem_cons_succ, List.getElem_cons_zero])
          refine upTo_take2 (i := 2) (v := ?v14_2) rfl (by kernel_rfl) (by kernel_rfl) (by kernel_rfl) rfl (fun _ _ _ h => h) (by rfl) hS0 ?hy14_2 ?rest14_2
          case hy14_2 => (intro u hu; (try dsimp only at hu); go_simp; first | done | with_reducible rfl)
          (try simp only [Act.put, List.setIfInBounds_toArray, List.set_cons_zero, List.set_cons_succ, List.getElem_toArray, List.getElem_cons_succ, List.getElem_cons_zero])
          refine upTo_take2 (i := 3) (v := ?v14_3) rfl (by kernel_rfl) (by kernel_rfl) (by kernel_rfl) rfl (fun _ _ _ h => h) (by rfl) hS0 ?hy14_3 ?rest14_3
          case hy14_3 => (intro u hu; (try dsimp only at hu); go_simp; first | done | with_reducible rfl)
          (try simp only [Act.put, List.setIfInBounds_toArray, List.set_cons_zero, List.set_cons_succ, List.getElem_toArray, List.getElem_cons_succ, List.getElem_cons_zero])
          refine upTo_take2 (i := 4) (v := ?v14_4) rfl (by kernel_rfl) (by kernel_rfl) (by kernel_rfl) rfl (fun _ _ _ h => h) (by rfl) hS0 ?hy14_4 ?rest14_4
          case hy14_4 => (intro u hu; (try dsimp only at hu); go_simp; first | done | with_reducible rfl)
          (try simp only [Act.put, List.setIfInBounds_toArray, List.set_cons_zero, List.set_cons_succ, List.getElem_toArray, List.getElem_cons_succ, List.getElem_cons_zero])
          clear hS0
          refine upTo_one (i := 5) (by kernel_rfl) rfl (fun K hK => ?_)
          go_simp
          refine (Tryd.strconv_Itoa win (by omega) (by omega) _ (HT.out _ (HK1.out.bel.drew))).mono ?_
          rintro e wi ⟨rfl, kk, os, rfl⟩
          have HBj : Hid (∀ m, Below ww.heap.size ww (Sort.grow (ww.drewN m) os)) := fun m => Lib.below_grow ww.heap.size ww (Nat.le_refl _) m os
          have HBi : Hid (Below ww.heap.size ww (Sort.grow (ww.drew.drewN kk) os)) := ((Below.refl _ ww).drew).trans (Lib.below_grow ww.heap.size ww.drew (Nat.le_refl _) kk os)
          refine hK.out _ _ (fun _ => HSS.out _ HBi.out) ?_
          clear hK K
          (try simp only [Act.put, List.setIfInBounds_toArray, List.set_cons_zero, List.set_cons_succ, List.getElem_toArray, List.getElem_cons_succ, List.getElem_cons_zero])
          refine upTo_one (i := 6) (by kernel_rfl) rfl (fun K hK => ?_)
          go_simp
          refine hK.out _ _ (fun _ => HSS.out _ (HBj.out _)) ?_
          clear hK K
          (try simp only [Act.put, List.setIfInBounds_toArray, List.set_cons_zero, List.set_cons_succ, List.getElem_toArray, List.getElem_cons_succ, List.getElem_cons_zero])
          refine upTo_one (i := 7) (by kernel_rfl) rfl (fun K hK => ?_)
          go_simp
          refine hK.out _ _ (fun _ => HSS.out _ (HBj.out _)) ?_
          clear hK K
          (try simp only [Act.put, List.setIfInBounds_toArray, List.set_cons_zero, List.set_cons_succ, List.getElem_toArray, List.getElem_cons_succ, List.getElem_cons_zero])
          refine upTo_done (by kernel_rfl) ?_
          go_wp2
          go_ret
          refine ⟨?_, HK1.out.bel.trans ((HBj.out _).mono HK1.out.bel.size)⟩
          rw [HTx.out]
          congr 2
          (try exact ByteArray.ext (by simp))
        | false =>
          go_upto_region 12 with fail
          clear p0 p1 p2 p3
          have HRf : Hid (Row wr 5 1 ba (txtAt (patPairs raw) i).length bc (bytesV (txtAt (patPairs raw) i))) := HK.out.row
          have p3 := HBx.out.cell 3
          simp only [pat4, List.getElem?_cons_zero, List.getElem?_cons_succ] at p3
          obtain ⟨lf, HLf⟩ := hex (txtAt (patPairs raw) i)
          rw [← HLf.out] at HRf ⊢
          have hlf : lf.length ≤ 12 := by rw [HLf.out]; omega
          have hs1 : (⟨lf.toArray⟩ : ByteArray).size = lf.length := by simp [ByteArray.size]
          have hs2 : (⟨lf.toArray⟩ ++ ⟨#[64]⟩ : ByteArray).size = lf.length + 1 := by rw [ByteArray.size_append, hs1]; rfl
          have hit := Lib.itoa_length_le win (by omega) (by omega)
          have hs3 : (⟨(Lib.itoa win).toArray⟩ : ByteArray).size = (Lib.itoa win).length := by simp [ByteArray.size]
          have hcap1 : ¬ 9223372036854775807 < (⟨lf.toArray⟩ : ByteArray).size + (⟨#[64]⟩ : ByteArray).size := by rw [hs1]; show ¬ _ < lf.length + 1; omega
          have hcap2 : ¬ 9223372036854775807 < (⟨lf.toArray⟩ ++ ⟨#[64]⟩ : ByteArray).size + (⟨(Lib.itoa win).toArray⟩ : ByteArray).size := by rw [hs2, hs3]; omega
          have hcapA : ¬ 9223372036854775807 < lf.length + 1 := by omega
          have hcapB : ¬ 9223372036854775807 < lf.length + 1 + (Lib.itoa win).length := by omega
          have HTx : Hid (patText raw = lf ++ [64] ++ Lib.itoa win) := by
            show _ = _
            unfold patText
            rw [if_neg HZ.out, ← HN.out, ← HWn.out, HLf.out, ← HO.out]
            simp
          have HSS : Hid (∀ v : World, Below wr.heap.size wr v → v.cell? ⟨w.heap.size, 3, none⟩ = some (.int .i64 win) ∧ Row v 5 1 ba lf.length bc (bytesV lf)) := fun v hv => ⟨(hv.cell (p := ⟨w.heap.size, 3, none⟩) HBx.out.lt).trans p3, HRf.out.kept (below_kept hv (fun _ => False)) (fun _ _ e => e)⟩
          refine upTo_region (fun u : World => u.cell? ⟨w.heap.size, 3, none⟩ = some (.int .i64 win) ∧ Row u 5 1 ba lf.length bc (bytesV lf)) 8 8 rfl (by kernel_rfl) ?_
          have hS0 : (fun u : World => u.cell? ⟨w.heap.size, 3, none⟩ = some (.int .i64 win) ∧ Row u 5 1 ba lf.length bc (bytesV lf)) wr.drew := HSS.out _ ((Below.refl _ _).drew)
          refine upTo_take2 (i := 0) (v := ?v15_0) rfl (by kernel_rfl) (by kernel_rfl) (by kernel_rfl) rfl (fun _ _ _ h => h) (by rfl) hS0 ?hy15_0 ?rest15_0
          case hy15_0 => (intro u hu; (try dsimp only at hu); go_simp; first | done | with_reducible rfl)
          (try simp only [Act.put, List.setIfInBounds_toArray, List.set_cons_zero, List.set_cons_succ, List.getElem_toArray, List.getElem_cons_succ, List.getElem_cons_zero])
          refine upTo_take2 (i := 1) (v := .string ⟨lf.toArray⟩) rfl (by kernel_rfl) (by kernel_rfl) (by kernel_rfl) rfl (fun _ _ _ h => h) (by rfl) hS0 ?hyd ?restd
          case hyd =>
            intro u hu
            have kc' := conv_line hu.2
            go_simp
          (try simp only [Act.put, List.setIfInBounds_toArray, List.set_cons_zero, List.set_cons_succ, List.getElem_toArray, List.getElem_cons_succ, List.getElem_cons_zero])
          refine upTo_take2 (i := 2) (v := ?v16_2) rfl (by kernel_rfl) (by kernel_rfl) (by kernel_rfl) rfl (fun _ _ _ h => h) (by rfl) hS0 ?hy16_2 ?rest16_2
          case hy16_2 => (intro u hu; (try dsimp only at hu); go_simp; first | done | with_reducible rfl)
          (try simp only [Act.put, List.setIfInBounds_toArray, List.set_cons_zero, List.set_cons_succ, List.getElem_toArray, List.getElem_cons_succ, List.getElem_cons_zero])
          refine upTo_take2 (i := 3) (v := ?v16_3) rfl (by kernel_rfl) (by kernel_rfl) (by kernel_rfl) rfl (fun _ _ _ h => h) (by rfl) hS0 ?hy16_3 ?rest16_3
          case hy16_3 => (intro u hu; (try dsimp only at hu); go_simp; first | done | with_reducible rfl)
          (try simp only [Act.put, List.setIfInBounds_toArray, List.set_cons_zero, List.set_cons_succ, List.getElem_toArray, List.getElem_cons_succ, List.getElem_cons_zero])
          refine upTo_take2 (i := 4) (v := ?v16_4) rfl (by kernel_rfl) (by kernel_rfl) (by kernel_rfl) rfl (fun _ _ _ h => h) (by rfl) hS0 ?hy16_4 ?rest16_4
          case hy16_4 => (intro u hu; (try dsimp only at hu); go_simp; first | done | with_reducible rfl)
          (try simp only [Act.put, List.setIfInBounds_toArray, List.set_cons_zero, List.set_cons_succ, List.getElem_toArray, List.getElem_cons_succ, List.getElem_cons_zero])
          clear hS0
          refine upTo_one (i := 5) (by kernel_rfl) rfl (fun K hK => ?_)
          go_simp
          refine (Tryd.strconv_Itoa win (by omega) (by omega) _ (HT.out _ (HK.out.bel.drew))).mono ?_
          rintro e wi ⟨rfl, kk, os, rfl⟩
          have HBj : Hid (∀ m, Below wr.heap.size wr (Sort.grow (wr.drewN m) os)) := fun m => Lib.below_grow wr.heap.size wr (Nat.le_refl _) m os
          have HBi : Hid (Below wr.heap.size wr (Sort.grow (wr.drew.drewN kk) os)) := ((Below.refl _ wr).drew).trans (Lib.below_grow wr.heap.size wr.drew (Nat.le_refl _) kk os)
          refine hK.out _ _ (fun _ => HSS.out _ HBi.out) ?_
          clear hK K
          (try simp only [Act.put, List.setIfInBounds_toArray, List.set_cons_zero, List.set_cons_succ, List.getElem_toArray, List.getElem_cons_succ, List.getElem_cons_zero])
          refine upTo_one (i := 6) (by kernel_rfl) rfl (fun K hK => ?_)
          go_simp
          refine hK.out _ _ (fun _ => HSS.out _ (HBj.out _)) ?_
          clear hK K
          (try simp only [Act.put, List.setIfInBounds_toArray, List.set_cons_zero, List.set_cons_succ, List.getElem_toArray, List.getElem_cons_succ, List.getElem_cons_zero])
          refine upTo_one (i := 7) (by kernel_rfl) rfl (fun K hK => ?_)
          go_simp
          refine hK.out _ _ (fun _ => HSS.out _ (HBj.out _)) ?_
          clear hK K
          (try simp only [Act.put, List.setIfInBounds_toArray, List.set_cons_zero, List.set_cons_succ, List.getElem_toArray, List.getElem_cons_succ, List.getElem_cons_zero])
          refine upTo_done (by kernel_rfl) ?_
          go_wp2
          go_ret
          refine ⟨?_, HK.out.bel.trans ((HBj.out _).mono HK.out.bel.size)⟩
          rw [HTx.out]
          congr 2
          (try exact ByteArray.ext (by simp))
end Go.Proofs.YtghcololkgeoeabDoor
namespace Go.Proofs.YtghcololkgeoeabDoor
open Go.RowKit
set_option linter.unusedVariables false
set_option linter.unusedSimpArgs false
attribute [local go_sem ↓] Go.wp_at_zero Go.wp_at_succ

/-! ### such a text is a pattern -/
theorem dec_digs (u : Nat) : (∀ c ∈ Lib.decDigits u, isDig c = true) ∧ numOf 0 (Lib.decDigits u) = u ∧ 1 ≤ (Lib.decDigits u).length := by
  induction u using Nat.strongRecOn with
  | _ u ih =>
    rw [Lib.decDigits]
    by_cases h : u < 10
    · rw [dif_pos h]
      have e : (UInt8.ofNat (48 + u)).toNat = 48 + u := by rw [UInt8.toNat_ofNat']; omega
      refine ⟨?_, ?_, by simp⟩
      · intro c hc
        simp only [List.mem_singleton] at hc
        subst hc
        simp only [isDig, decide_eq_true_eq, e]; omega
      · simp only [numOf, List.foldl_cons, List.foldl_nil, e]; omega
    · rw [dif_neg h]
      obtain ⟨a, b, c⟩ := ih (u / 10) (by omega)
      have e : (UInt8.ofNat (48 + u % 10)).toNat = 48 + u % 10 := by rw [UInt8.toNat_ofNat']; omega
      refine ⟨?_, ?_, by simp⟩
      · intro x hx
        rcases List.mem_append.1 hx with hx | hx
        · exact a x hx
        · simp only [List.mem_singleton] at hx
          subst hx
          simp only [isDig, decide_eq_true_eq, e]; omega
      · rw [numOf_snoc, b, e]; omega
theorem dec_len : ∀ (k u : Nat), u < 10 ^ (k + 1) → (Lib.decDigits u).length ≤ k + 1 := by
  intro k
  induction k with
  | zero => intro u h; rw [Lib.decDigits, dif_pos (by simpa using h)]; simp
  | succ k ih =>
    intro u h
    rw [Lib.decDigits]
    by_cases h10 : u < 10
    · rw [dif_pos h10]; simp
    · rw [dif_neg h10]
      have := ih (u / 10) (by rw [Nat.pow_succ] at h; omega)
      simp only [List.length_append, List.length_cons, List.length_nil]; omega
theorem win_text {win : Int} (h : 0 ≤ win ∧ win ≤ 1099511627776) : winB (64 :: Lib.itoa win) ∧ numOf 0 (Lib.itoa win) = win := by
  obtain ⟨u, rfl⟩ := Int.eq_ofNat_of_zero_le h.1
  have e : Lib.itoa (u : Int) = Lib.decDigits u := by unfold Lib.itoa; rw [if_neg (by omega)]; simp
  rw [e]
  obtain ⟨a, b, c⟩ := dec_digs u
  have hl := dec_len 12 u (by omega)
  refine ⟨⟨by simp only [List.length_cons]; omega, rfl, by simp only [List.length_cons]; omega, by simpa using a, by simp only [List.drop_succ_cons, List.drop_zero]; rw [b]; omega⟩, b⟩
theorem steps_pairs (l : List (Int × Int)) : ∀ (ac : List (Int × Int)) (r : List UInt8), (∀ p ∈ l, (65 ≤ p.1 ∧ p.1 ≤ 67) ∧ (p.2 = 0 ∨ (65 ≤ p.2 ∧ p.2 ≤ 67))) → (0 < ac.length ∨ ∀ p, l.head? = some p → p.2 = 0) →
    stepsOf ac (l.flatMap stepBytes ++ r) = stepsOf (ac ++ l) r := by
  induction l with
  | nil => intro ac r _ _; simp
  | cons p l ih =>
    intro ac r h hh
    obtain ⟨hk, hn⟩ := h p (by simp)
    have hrest : ∀ q ∈ l, (65 ≤ q.1 ∧ q.1 ≤ 67) ∧ (q.2 = 0 ∨ (65 ≤ q.2 ∧ q.2 ≤ 67)) := fun q hq => h q (by simp [hq])
    have ek := oneByte_val (k := p.1) (by omega)
    have ck : capC (oneByte p.1) = true := (capC_iff _).2 (by omega)
    have ih' := ih (ac ++ [p]) r hrest (Or.inl (by simp))
    rw [List.flatMap_cons, List.append_assoc]
    rcases hn with hn | hn
    · have e : stepBytes p = [oneByte p.1] := by unfold stepBytes; rw [if_neg (by omega)]; rfl
      rw [e, List.singleton_append, stepsOf_cons, if_pos ck, ek]
      have : ((p.1, (0 : Int)) : Int × Int) = p := by rw [← hn]
      rw [this, ih']; simp
    · have e : stepBytes p = [33, oneByte p.2, oneByte p.1] := by unfold stepBytes; rw [if_pos (by omega)]; rfl
      have en := oneByte_val (k := p.2) (by omega)
      have cn : capC (oneByte p.2) = true := (capC_iff _).2 (by omega)
      have hac : 0 < ac.length := by
        rcases hh with hh | hh
        · exact hh
        · have := hh p rfl; omega
      rw [e, List.cons_append, List.cons_append, List.cons_append, List.nil_append, stepsOf_cons, if_neg (by decide), if_pos ⟨rfl, by simp [capAt, cn], by simp [capAt, ck], hac⟩]
      have : ((byteAt (oneByte p.2 :: oneByte p.1 :: (l.flatMap stepBytes ++ r)) 1, byteAt (oneByte p.2 :: oneByte p.1 :: (l.flatMap stepBytes ++ r)) 0) : Int × Int) = p := by simp [byteAt, ek, en]
      rw [this]
      simp only [List.drop_succ_cons, List.drop_zero]
      rw [ih']; simp
theorem stops_at {ac : List (Int × Int)} {c : UInt8} {r : List UInt8} (h : c = 61 ∨ c = 64) : stepsOf ac (c :: r) = (ac, c :: r) := by
  rw [stepsOf_cons, if_neg (by rcases h with h | h <;> rw [h] <;> decide), if_neg (by rcases h with h | h <;> rw [h] <;> simp)]
theorem patPairs_vals (raw : Int) : ∀ p ∈ patPairs raw, (65 ≤ p.1 ∧ p.1 ≤ 67) ∧ (p.2 = 0 ∨ (65 ≤ p.2 ∧ p.2 ≤ 67)) := by
  intro p hp
  have hv := patAt_vals (patK0_range raw) (patN raw)
  have h2 : (p.1, p.2) ∈ (patKinds raw).zip (patNots raw) := hp
  exact ⟨hv.1 _ (List.of_mem_zip h2).1, hv.2 _ (List.of_mem_zip h2).2⟩
theorem patNots_head (k0 : Int) (i : Nat) : (patAt k0 (i + 1)).1.2.head? = some 0 := by
  induction i with
  | zero => simp [patAt]
  | succ i ih =>
    rw [patAt]
    simp only [List.head?_append, ih]
    rfl
theorem patPairs_head (raw : Int) : ∀ p, (patPairs raw).head? = some p → p.2 = 0 := by
  intro p hp
  have h2 : (patNots raw).head? = some p.2 := by
    unfold patPairs at hp
    cases hk : patKinds raw with
    | nil => rw [hk] at hp; simp at hp
    | cons a ks =>
      cases hn : patNots raw with
      | nil => rw [hk, hn] at hp; simp at hp
      | cons b bs => rw [hk, hn] at hp; simp at hp; rw [← hp]; rfl
  cases hN : patN raw with
  | zero => unfold patNots at h2; rw [hN] at h2; simp [patAt] at h2
  | succ m => unfold patNots at h2; rw [hN, patNots_head] at h2; simpa using h2.symm
/-- the document reads it so -/
theorem patText_steps (raw : Int) : wholeP (patText raw) ∧ patSteps (patText raw) = patPairs raw ∧ (patN raw ≠ 0 → patOne (patText raw) = patIsOne raw ∧ patWin (patText raw) = patWindow raw) := by
  have hwin : 0 ≤ patWindow raw ∧ patWindow raw ≤ 1099511627776 := by
    have := patAt_pos (patK0_range raw) (patN raw)
    unfold patWindow patRest
    split <;> omega
  obtain ⟨hW, hV⟩ := win_text hwin
  have hlen := patPairs_len raw
  have hn3 := patN_le raw
  by_cases hz : patN raw = 0
  · have e : patText raw = [] := by unfold patText; rw [if_pos hz]
    rw [e]
    refine ⟨Or.inl rfl, ?_, fun h => absurd hz h⟩
    have : patPairs raw = [] := List.eq_nil_of_length_eq_zero (by omega)
    rw [this]; simp [patSteps, stepsOf]
  · have e : patText raw = (patPairs raw).flatMap stepBytes ++ ((if patIsOne raw then [61] else []) ++ [64] ++ Lib.itoa (patWindow raw)) := by
      unfold patText txtAt
      rw [if_neg hz, List.take_of_length_le (by omega)]
      simp
    have hs := steps_pairs (patPairs raw) [] ((if patIsOne raw then [61] else []) ++ [64] ++ Lib.itoa (patWindow raw)) (patPairs_vals raw) (Or.inr (patPairs_head raw))
    rw [List.nil_append] at hs
    unfold wholeP patSteps patOne patWin
    rw [e, hs]
    cases patIsOne raw with
    | true =>
      simp only [if_true, List.cons_append, List.nil_append]
      rw [stops_at (Or.inl rfl)]
      have e1 : oneOf (61 :: 64 :: Lib.itoa (patWindow raw)) = true := by simp [oneOf, byteAt]
      have e2 : restOf (61 :: 64 :: Lib.itoa (patWindow raw)) = 64 :: Lib.itoa (patWindow raw) := by unfold restOf; rw [if_pos e1]; rfl
      simp only
      rw [e2]
      exact ⟨Or.inr ⟨by omega, by omega, hW⟩, trivial, fun _ => ⟨e1, hV⟩⟩
    | false =>
      simp only [Bool.false_eq_true, if_false, List.cons_append, List.nil_append]
      rw [stops_at (Or.inr rfl)]
      have e1 : oneOf (64 :: Lib.itoa (patWindow raw)) = false := by simp [oneOf, byteAt]
      have e2 : restOf (64 :: Lib.itoa (patWindow raw)) = 64 :: Lib.itoa (patWindow raw) := by unfold restOf; rw [e1]; rfl
      simp only
      rw [e2]
      exact ⟨Or.inr ⟨by omega, by omega, hW⟩, trivial, fun _ => ⟨e1, hV⟩⟩
theorem patText_len (raw : Int) : (patText raw).length ≤ 60 := by
  unfold patText
  have hwin : 0 ≤ patWindow raw ∧ patWindow raw ≤ 1099511627776 := by
    have := patAt_pos (patK0_range raw) (patN raw)
    unfold patWindow patRest
    split <;> omega
  have h1 := Lib.itoa_length_le (patWindow raw) (by omega) (by omega)
  have h2 := txtAt_len (patPairs raw) (patN raw)
  have h3 := patN_le raw
  split
  · simp
  · split <;> simp only [List.length_append, List.length_cons, List.length_nil] <;> omega

/-! ### the configuration -/
structure RawC where
  sources : Int
  slack : Int
  policy : Int
  room : Int
  idle : Int
  pattern : Int
def RawC.ok (r : RawC) : Prop := I64 r.sources ∧ I64 r.slack ∧ I64 r.policy ∧ I64 r.room ∧ I64 r.idle ∧ I64 r.pattern
def RawC.vals (r : RawC) : List Value := [.int .i64 r.sources, .int .i64 r.slack, .int .i64 r.policy, .int .i64 r.room, .int .i64 r.idle, .int .i64 r.pattern]
def RawC.cfg (r : RawC) : Cfg := ⟨1 + pk r.sources 6, pk r.slack 1001, pk r.policy 3, 1 + pk r.room 32, pk r.idle 1001, ⟨(patText r.pattern).toArray⟩⟩
theorem RawC.cfg_ok (r : RawC) : r.cfg.ok := by
  have h1 := pk_range (c := r.sources) (n := 6) (by omega)
  have h2 := pk_range (c := r.slack) (n := 1001) (by omega)
  have h3 := pk_range (c := r.policy) (n := 3) (by omega)
  have h4 := pk_range (c := r.room) (n := 32) (by omega)
  have h5 := pk_range (c := r.idle) (n := 1001) (by omega)
  refine ⟨?_, ?_, ?_⟩
  · unfold Cfg.fits RawC.cfg; simp only; omega
  · exact patText_len _
  · exact (patText_steps _).1
end Go.Proofs.YtghcololkgeoeabDoor
