import Derived.Test.YtghcololkgeoeabGreatPartN0
import Derived.Test.YtghcololkgeoeabGreatPartB0
import Derived.Test.YtghcololkgeoeabGreatPartC2
import Derived.Deep.QuietTactic
import Derived.BigQuiet
import Derived.BigRegion
import Derived.Test.YtghcololkgeoeabGreatPartA0
namespace Go.Proofs.YtghcololkgeoeabGreat
open Go.RowKit
set_option linter.unusedVariables false
set_option linter.unusedSimpArgs false
attribute [local go_sem ↓] Go.wp_at_zero Go.wp_at_succ

theorem MemS.setBox {w0 w : World} {sb : Nat} {P : Pq} {pa : Option Addr} {pc : Nat} {ga : Option Addr} {gc : Nat} {l : List Ev} {Q : Sq} (h : MemS w0 w sb P pa pc ga gc l Q) (o : Nat) (v : Value) (Q' : Sq) (h1 : Q'.pb = Q.pb ∧ Q'.pcap = Q.pcap ∧ Q'.pls = Q.pls ∧ Q'.fa = Q.fa ∧ Q'.fc = Q.fc ∧ Q'.ms = Q.ms ∧ Q'.F = Q.F) (hv : sqV P pa pc ga gc l.length Q' = (sqV P pa pc ga gc l.length Q).set o v) : MemS w0 (w.setCell ⟨sb, o, none⟩ v) sb P pa pc ga gc l Q' := by
  obtain ⟨e1, e2, e3, e4, e5, e6, e7⟩ := h1
  have K : Kept (fun k => k = sb) w (w.setCell ⟨sb, o, none⟩ v) := (Kept.refl (fun k => k = sb) w).setCell (fun _ => rfl) v
  refine ⟨kept_toBelow h.bel K (fun i e => by rw [e]; exact h.up.1), h.st, h.ev, ?_, by rw [e1]; exact h.up, ?_, by rw [e3]; exact h.plen, ?_, by rw [e4, e6, e1]; exact h.off⟩
  · rw [hv]; exact h.box.set o v
  · rw [e1, e2, e3]; exact h.pls.kept K (fun k e f => h.up.2.2 (by simp [bk] at e; omega))
  · rw [e4, e5, e6, e7]; exact h.lst.kept K (fun k hk f => (h.off k hk).1 f)
theorem MemS.put {w0 w : World} {sb : Nat} {P : Pq} {pa : Option Addr} {pc : Nat} {ga : Option Addr} {gc : Nat} {l : List Ev} {Q : Sq} (h : MemS w0 w sb P pa pc ga gc l Q) (k p : Nat) : MemS w0 (w.setCell ⟨Q.pb, k, none⟩ (.int .i64 p)) sb P pa pc ga gc l { Q with pls := Q.pls.set k p } := by
  have K : Kept (fun k => k = Q.pb) w (w.setCell ⟨Q.pb, k, none⟩ (.int .i64 p)) := (Kept.refl (fun k => k = Q.pb) w).setCell (fun _ => rfl) _
  refine ⟨kept_toBelow h.bel K (fun i e => by rw [e]; exact h.up.2.1), h.st, h.ev, ?_, h.up, ?_, by simpa using h.plen, h.lst.kept K (fun k hk f => (h.off k hk).2 f), h.off⟩
  · exact h.box.kept K (fun e => h.up.2.2 e)
  · have := h.pls.set k (.int .i64 p)
    have e : (natV Q.pls).set k (.int .i64 p) = natV (Q.pls.set k p) := by unfold natV; rw [List.map_set]
    rw [e] at this
    exact this
theorem LsAt.mono {w : World} {H H' : Nat} {a : Option Addr} {c : Nat} {ms : List (Nat × Nat)} {n : Nat} {F : List (List Nat)} (h : LsAt w H a c ms n F) (hH : H' ≤ H) : LsAt w H' a c ms n F := ⟨h.row, h.len, h.each, h.dis, fun k hk => Nat.le_trans hH (h.up k hk)⟩
theorem MemS.below {w0 w : World} {sb : Nat} {P : Pq} {pa : Option Addr} {pc : Nat} {ga : Option Addr} {gc : Nat} {l : List Ev} {Q : Sq} (h : MemS w0 w sb P pa pc ga gc l Q) {w' : World} (hb : Below w.heap.size w w') : MemS w0 w' sb P pa pc ga gc l Q := by
  have K := below_kept hb (fun _ => False)
  exact ⟨kept_toBelow h.bel K (fun i e => e.elim), h.st, h.ev, h.box.kept K (fun e => e), h.up, h.pls.kept K (fun _ _ e => e), h.plen, h.lst.kept K (fun _ _ e => e), h.off⟩
theorem LsAt.lt {w : World} {H : Nat} {a : Option Addr} {c : Nat} {ms : List (Nat × Nat)} {n : Nat} {F : List (List Nat)} (h : LsAt w H a c ms n F) : ∀ k, some k ∈ (bk a :: ms.map fun m => some m.1) → k < w.heap.size := by
  intro k hk
  rcases List.mem_cons.1 hk with e | hk
  · exact h.row.lt e.symm
  · obtain ⟨m, hm, e⟩ := List.mem_map.1 hk
    obtain ⟨i, hi, rfl⟩ := List.mem_iff_getElem.1 hm
    have := (h.each i _ _ (List.getElem?_eq_getElem hi) (List.getElem?_eq_getElem (by rw [← h.len]; exact hi))).2
    exact this.lt (by simpa [bk] using e)
theorem LsAt.app {w w2 : World} {H : Nat} {a : Option Addr} {c : Nat} {ms : List (Nat × Nat)} {n : Nat} {F : List (List Nat)} {mb mc g2 cap : Nat} {f : List Nat} {wa : World} (h : LsAt w H a c ms n F)
    (hr : Row w 3 1 (some ⟨mb, 0, none⟩) n mc (natV f)) (hf : f.length = n) (hmb : H ≤ mb) (hne : some mb ∉ (bk a :: ms.map fun m => some m.1)) (hb : Below w.heap.size w wa)
    (hown : w2.ownsRow 0 36 1 (.slice (some ⟨g2, 0, none⟩) (ms.length + 1) cap) (ms.length + 1) ((ms.map fun m => Value.slice (some ⟨m.1, 0, none⟩) n m.2) ++ [Value.slice (some ⟨mb, 0, none⟩) n mc])) (hgrow : wa.grownBy w2 (bk a)) (hat : bk a = some g2 ∨ wa.heap.size ≤ g2) (hH : H ≤ w.heap.size) : LsAt w2 H (some ⟨g2, 0, none⟩) cap (ms ++ [(mb, mc)]) n (F ++ [f]) := by
  have K : Kept (fun k => bk a = some k) w w2 := ((Kept.refl _ w).below hb).grown hgrow (fun k _ e => e)
  have hlt := h.lt
  have hmlt : mb < w.heap.size := hr.lt rfl
  have hg2 : H ≤ g2 := by
    rcases hat with e | e
    · exact h.up g2 (by simp [e])
    · have := hb.size; omega
  have hg2n : ∀ k, some k ∈ (ms.map fun m => some m.1) → k ≠ g2 := by
    intro k hk e
    rcases hat with e2 | e2
    · have : some k ∈ [bk a] := by rw [e2, e]; simp
      obtain ⟨j, hj⟩ := List.mem_iff_getElem?.1 hk
      have := h.dis 0 (j + 1) k (by rw [e2, e]; rfl) (by simpa using hj)
      omega
    · have := hlt k (List.mem_cons_of_mem _ hk)
      have := hb.size
      omega
  have hmg : mb ≠ g2 := by
    intro e
    rcases hat with e2 | e2
    · exact hne (by rw [e2, e]; simp)
    · have := hb.size; omega
  have hmem : ∀ m ∈ ms, ∀ k, bk a = some k → m.1 ≠ k := by
    intro m hm k hk e
    obtain ⟨j, hj⟩ := List.mem_iff_getElem?.1 (List.mem_map.2 ⟨m, hm, rfl⟩ : some m.1 ∈ ms.map fun m => some m.1)
    have := h.dis 0 (j + 1) k (by rw [hk]; rfl) (by rw [← e]; simpa using hj)
    omega
  refine ⟨?_, by simp [h.len], ?_, ?_, ?_⟩
  · rw [List.length_append, List.map_append]; exact hown
  · intro i m f' hm hf'
    by_cases hi : i < ms.length
    · rw [List.getElem?_append_left hi] at hm
      rw [List.getElem?_append_left (by rw [← h.len]; exact hi)] at hf'
      obtain ⟨h1, h2⟩ := h.each i m f' hm hf'
      exact ⟨h1, h2.kept K (fun k e e2 => hmem m (List.mem_of_getElem? hm) k e2 (by simpa [bk] using e))⟩
    · rw [List.getElem?_append_right (by omega)] at hm
      rw [List.getElem?_append_right (by rw [← h.len]; omega)] at hf'
      have i0 : i - ms.length = 0 := by
        have := (List.getElem?_eq_some_iff.1 hm).1; simp at this; omega
      rw [i0] at hm
      rw [← h.len, i0] at hf'
      simp only [List.getElem?_cons_zero, Option.some.injEq] at hm hf'
      subst hm; subst hf'
      refine ⟨hf, hr.kept K (fun k e e2 => hne ?_)⟩
      have : mb = k := by simpa [bk] using e
      rw [e2, this]; simp
  · intro i j k hi hj
    have key : ∀ i, (bk (some ⟨g2, 0, none⟩) :: (ms ++ [(mb, mc)]).map fun m => some m.1)[i]? = some (some k) → (i = 0 ∧ k = g2) ∨ (∃ i', i = i' + 1 ∧ (ms.map fun m => some m.1)[i']? = some (some k)) ∨ (i = ms.length + 1 ∧ k = mb) := by
      intro i hi
      cases i with
      | zero => simp [bk] at hi; exact Or.inl ⟨rfl, hi.symm⟩
      | succ i =>
        rw [List.getElem?_cons_succ, List.map_append] at hi
        by_cases h2 : i < ms.length
        · rw [List.getElem?_append_left (by simpa using h2)] at hi
          exact Or.inr (Or.inl ⟨i, rfl, hi⟩)
        · rw [List.getElem?_append_right (by simpa using h2)] at hi
          have i0 : i - (ms.map fun m => some m.1).length = 0 := by
            have := (List.getElem?_eq_some_iff.1 hi).1; simp at this; simp; omega
          rw [i0] at hi
          simp at hi
          simp at i0
          exact Or.inr (Or.inr ⟨by omega, hi.symm⟩)
    rcases key i hi with ⟨a1, a2⟩ | ⟨i', a1, a2⟩ | ⟨a1, a2⟩ <;> rcases key j hj with ⟨b1, b2⟩ | ⟨j', b1, b2⟩ | ⟨b1, b2⟩
    · omega
    · exact absurd a2 (hg2n k (List.mem_of_getElem? b2))
    · omega
    · exact absurd b2 (hg2n k (List.mem_of_getElem? a2))
    · have := h.dis (i' + 1) (j' + 1) k (by simpa using a2) (by simpa using b2)
      omega
    · exact absurd (List.mem_cons_of_mem _ (List.mem_of_getElem? a2)) (b2 ▸ hne)
    · omega
    · exact absurd (List.mem_cons_of_mem _ (List.mem_of_getElem? b2)) (a2 ▸ hne)
    · omega
  · intro k hk
    rcases List.mem_cons.1 hk with e | hk
    · have : k = g2 := by simpa [bk] using e
      omega
    · rw [List.map_append] at hk
      rcases List.mem_append.1 hk with hk | hk
      · exact h.up k (List.mem_cons_of_mem _ hk)
      · simp at hk; omega
theorem row_of_owns {w : World} {base : Nat} {t : TypeId} {sz : Nat} {a : Option Addr} {n c : Nat} {xs : List Value} (h : w.ownsRow base t sz (.slice a n c) n xs) : Row w t sz a n c xs := by
  obtain ⟨h1, h2⟩ := h
  refine ⟨h1, ?_⟩
  rcases h2 with h2 | ⟨g, cap, cur, hv, h2⟩
  · exact Or.inl h2
  · exact Or.inr ⟨g, cap, cur, hv, Nat.zero_le _, h2.2⟩
theorem MemS.app {w0 w1 w1a w2 : World} {sb : Nat} {P : Pq} {pa : Option Addr} {pc : Nat} {ga : Option Addr} {gc : Nat} {l : List Ev} {Q : Sq} {mb mc g2 cap : Nat} (h : MemS w0 w1 sb P pa pc ga gc l Q) (hr : Row w1 3 1 (some ⟨mb, 0, none⟩) P.st.length mc (natV Q.pls)) (hne : some mb ∉ (bk Q.fa :: Q.ms.map fun m => some m.1) ∧ mb ≠ sb ∧ mb ≠ Q.pb ∧ w0.heap.size ≤ mb) (hb : Below w1.heap.size w1 w1a)
    (hown : w2.ownsRow 0 36 1 (.slice (some ⟨g2, 0, none⟩) (Q.ms.length + 1) cap) (Q.ms.length + 1) ((Q.ms.map fun m => Value.slice (some ⟨m.1, 0, none⟩) P.st.length m.2) ++ [Value.slice (some ⟨mb, 0, none⟩) P.st.length mc])) (hgrow : w1a.grownBy w2 (bk Q.fa)) (hat : bk Q.fa = some g2 ∨ w1a.heap.size ≤ g2) :
    MemS w0 (w2.setCell ⟨sb, 7, none⟩ (.slice (some ⟨g2, 0, none⟩) (Q.ms.length + 1) cap)) sb P pa pc ga gc l { Q with fa := some ⟨g2, 0, none⟩, fc := cap, ms := Q.ms ++ [(mb, mc)], F := Q.F ++ [Q.pls] } ∧ Blk w2 sb 150 (sqV P pa pc ga gc l.length Q) := by
  have K : Kept (fun k => bk Q.fa = some k) w1 w2 := ((Kept.refl _ w1).below hb).grown hgrow (fun k _ e => e)
  have hbox : Blk w2 sb 150 (sqV P pa pc ga gc l.length Q) := h.box.kept K (fun e => (h.off sb (by simp [e])).1 rfl)
  have hls := h.lst.app hr h.plen hne.2.2.2 hne.1 hb hown hgrow hat h.bel.size
  have hgo : g2 ≠ sb ∧ g2 ≠ Q.pb := by
    rcases hat with e | e
    · exact h.off g2 (by simp [e])
    · have b1 := h.box.lt
      have b2 : Q.pb < w1.heap.size := h.pls.lt (a := some ⟨Q.pb, 0, none⟩) rfl
      have := hb.size
      omega
  have hoff : ∀ k, some k ∈ (bk (some ⟨g2, 0, none⟩) :: (Q.ms ++ [(mb, mc)]).map fun m => some m.1) → k ≠ sb ∧ k ≠ Q.pb := by
    intro k hk
    rcases List.mem_cons.1 hk with e | hk
    · have : k = g2 := by simpa [bk] using e
      rw [this]; exact hgo
    · rw [List.map_append] at hk
      rcases List.mem_append.1 hk with hk | hk
      · exact h.off k (List.mem_cons_of_mem _ hk)
      · simp at hk; rw [hk]; exact ⟨hne.2.1, hne.2.2.1⟩
  have K2 : Kept (fun k => k = sb) w2 (w2.setCell ⟨sb, 7, none⟩ (.slice (some ⟨g2, 0, none⟩) (Q.ms.length + 1) cap)) := (Kept.refl (fun k => k = sb) w2).setCell (fun _ => rfl) _
  have b0 : Below w0.heap.size w0 w2 := kept_toBelow h.bel K (fun i e => h.lst.up i (by simp [e]))
  refine ⟨⟨kept_toBelow b0 K2 (fun i e => by rw [e]; exact h.up.1), h.st, h.ev, ?_, h.up, ?_, h.plen, hls.kept K2 (fun k hk e => (hoff k hk).1 e), hoff⟩, hbox⟩
  · have := hbox.set 7 (.slice (some ⟨g2, 0, none⟩) (Q.ms.length + 1) cap)
    have e : sqV P pa pc ga gc l.length { Q with fa := some ⟨g2, 0, none⟩, fc := cap, ms := Q.ms ++ [(mb, mc)], F := Q.F ++ [Q.pls] } = (sqV P pa pc ga gc l.length Q).set 7 (.slice (some ⟨g2, 0, none⟩) (Q.ms.length + 1) cap) := by
      unfold sqV; simp
    rw [e]; exact this
  · refine (h.pls.kept K (fun k e f => ?_)).kept K2 (fun k e f => h.up.2.2 (by simp [bk] at e; omega))
    have : k = Q.pb := by simp [bk] at e; omega
    exact (h.off k (by simp [f])).2 this
theorem natV_one (f : List Nat) : ∀ u ∈ natV f, u.oneCell' = true := by
  intro u hu
  unfold natV at hu
  obtain ⟨x, _, rfl⟩ := List.mem_map.1 hu
  rfl
theorem natV_len (f : List Nat) : (natV f).length = f.length := by unfold natV; simp
theorem Tryz.infoInts : (Tryz.prog.info? 36).map (fun i => (i.zero, i.size, i.bytes)) = some (some (.slice none 0 0), 1, 24) := by kernel_rfl
set_option maxRecDepth 100000 in
set_option maxHeartbeats 2000000 in
theorem near_any (sb : Nat) (P : Pq) (pa : Option Addr) (pc : Nat) (ga : Option Addr) (gc : Nat) (l : List Ev) (Q : Sq) (w0 w : World) (h : MemS w0 w sb P pa pc ga gc l Q) (k : Nat) (hk : k < P.st.length) (hz : Q.z < l.length) (hl : l.length ≤ 1000) :
    Calls Tryz.prog 103 #[.pointer (some ⟨sb, 0, none⟩), .int .i64 k] w fun e w' => e = .returned (.int .i64 (near (P.bar l Q.z k) (Q.z - 1))) ∧ ∃ n, w' = w.drewN n := by
  obtain ⟨nv, HNv⟩ := hex (near (P.bar l Q.z k) (Q.z - 1))
  rw [← HNv.out]
  have s4 := h.cells.2.2.2.2.1
  have H : Hid (MemS w0 w sb P pa pc ga gc l Q) := h
  clear h
  have hz' : (Q.z : Int) < 1000 := by omega
  go_enter Tryz.func103, Tryz.ntmps103
  go_wp2
  go_loopw [5] (fun iv wr => ∃ (i : Int) (n : Nat), iv = .int .i64 i ∧ -1 ≤ i ∧ i < Q.z ∧ nv = near (P.bar l Q.z k) i.toNat ∧ wr = w.drewN n) (fun iv _ => (intOf iv).toNat)
  case atStart => exact ⟨(Q.z : Int) - 1, 0, by go_num, by omega, by omega, by rw [HNv.out]; congr 1; omega, rfl⟩
  case round =>
    obtain ⟨i, n, rfl, h1, h2, h3, hw⟩ := hrel
    have HW : Hid (wr = w.drewN n) := hw
    have H3 : Hid (nv = near (P.bar l Q.z k) i.toNat) := h3
    clear hw h3
    by_cases hi : 0 < i
    · obtain ⟨p, rfl⟩ : ∃ p : Nat, i = p := ⟨i.toNat, by omega⟩
      obtain ⟨q, rfl⟩ : ∃ q : Nat, p = q + 1 := ⟨p - 1, by omega⟩
      have hbr : Calls Tryz.prog 108 #[.pointer (some ⟨sb, 0, none⟩), .int .i64 k, .int .i64 ((q + 1 : Nat) : Int)] wr fun e w' => e = .returned (.bool (P.bar l Q.z k (q + 1))) ∧ ∃ n, w' = w.drewN n := by
        rw [HW.out]
        exact (barred_any sb P pa pc ga gc l Q w0 _ (H.out.drewN n) k (q + 1) hk (by omega) hz).mono fun e w' ⟨he, m, hm⟩ => ⟨he, n + m, by rw [hm, drewN2]⟩
      have hN : near (P.bar l Q.z k) ((q + 1 : Nat) : Int).toNat = if P.bar l Q.z k (q + 1) then q + 1 else near (P.bar l Q.z k) q := by
        rw [show ((q + 1 : Nat) : Int).toNat = q + 1 by omega]; rfl
      have HNN : Hid (nv = if P.bar l Q.z k (q + 1) then q + 1 else near (P.bar l Q.z k) q) := H3.out.trans hN
      clear hN H3
      cases hb : P.bar l Q.z k (q + 1) with
      | true =>
        have HR : Hid (nv = q + 1) := by show _ = _; rw [HNN.out, hb]; first | done | rfl
        rw [hb] at hbr
        clear hb HNN
        go_wp2_with (go_at_call 108; refine hbr.mono ?_; rintro e w' ⟨rfl, m, rfl⟩)
        go_ret
        exact ⟨by rw [HR.out]; rfl, _, rfl⟩
      | false =>
        have HR : Hid (nv = near (P.bar l Q.z k) q) := by show _ = _; rw [HNN.out, hb]; first | done | rfl
        rw [hb] at hbr
        clear hb HNN
        go_wp2_with (go_at_call 108; refine hbr.mono ?_; rintro e w' ⟨rfl, m, rfl⟩)
        go_roundw
        case rel => exact ⟨q, m, by first | rfl | go_num, by omega, by omega, by rw [HR.out]; first | done | rfl | congr 1, rfl⟩
        case measure => simp [intOf]
    · have HR : Hid (nv = 0) := by show _ = _; rw [H3.out, show i.toNat = 0 by omega]; first | done | rfl
      go_wp2
      go_ret
      exact ⟨by rw [HR.out]; rfl, n, HW.out⟩
set_option maxRecDepth 100000 in
set_option maxHeartbeats 2000000 in
theorem add_any (sb : Nat) (P : Pq) (pa : Option Addr) (pc : Nat) (ga : Option Addr) (gc : Nat) (l : List Ev) (Q : Sq) (w0 w : World) (h : MemS w0 w sb P pa pc ga gc l Q) (h1 : 1 ≤ P.st.length) (h3 : P.st.length ≤ 3) (hF : Q.F.length ≤ 100) :
    Calls Tryz.prog 109 #[.pointer (some ⟨sb, 0, none⟩)] w fun e w' => e = .returned (.tuple #[]) ∧ ∃ Q', MemS w0 w' sb P pa pc ga gc l Q' ∧ Q'.z = Q.z ∧ Q'.least = Q.least ∧ Q'.pls = Q.pls ∧ ((100 ≤ Q.F.length ∧ Q'.F = Q.F ∧ Q'.more = true) ∨ (Q.F.length < 100 ∧ Q'.F = Q.F ++ [Q.pls] ∧ Q'.more = Q.more)) := by
  obtain ⟨i0, hi0, hz0, hz1, hz2⟩ := info_parts Tryz.infoInt
  obtain ⟨j0, hj0, hy0, hy1, hy2⟩ := info_parts Tryz.infoInts
  have s6 := h.cells.2.2.2.2.2.2.1
  have s7 := h.cells.2.2.2.2.2.2.2.1
  have s8 := h.cells.2.2.2.2.2.2.2.2
  have f8 := h.box.frozen 8
  have hml := h.lst.len
  have H : Hid (MemS w0 w sb P pa pc ga gc l Q) := h
  clear h
  by_cases hfull : 100 ≤ Q.F.length
  · have hf' : (100 : Int) ≤ (Q.ms.length : Int) := by omega
    have HM : Hid (MemS w0 (w.setCell ⟨sb, 8, none⟩ (.bool true)) sb P pa pc ga gc l { Q with more := true }) := H.out.setBox 8 (.bool true) _ ⟨rfl, rfl, rfl, rfl, rfl, rfl, rfl⟩ rfl
    clear hml
    go_enter Tryz.func109, Tryz.ntmps109
    go_wp2
    (try simp only [Exit.inBlock, Exit.then])
    refine bodyPost_ret (results_none rfl _ _ _) rfl ?_
    exact ⟨rfl, _, HM.out, rfl, rfl, rfl, Or.inl ⟨hfull, rfl, rfl⟩⟩
  · have hf' : ¬ (100 : Int) ≤ (Q.ms.length : Int) := by omega
    have HB0 : Hid (Below w.heap.size w (w.alloc (.cells #[] 3))) := (Below.refl _ _).alloc (Nat.le_refl _) _
    have HE : Hid ((w.alloc (.cells #[] 3)).ownsRow w.heap.size 3 1 (.slice (some ⟨w.heap.size, 0, none⟩) 0 0) 0 []) := World.ownsRow_lit w #[] 0 (Nat.le_refl _) (by unfold maxLen; omega) (by simp)
    have hms : Q.ms.length ≤ 99 := by omega
    obtain ⟨pb, HPb⟩ := hex Q.pb
    have c6 : ∀ o, (w.alloc o).cell? ⟨sb, 6, none⟩ = some (.slice (some ⟨pb, 0, none⟩) P.st.length Q.pcap) := fun o => by rw [HPb.out]; exact ((Blk.alloc H.out.box o).cell 6)
    have hnews : ∀ j u, (natV Q.pls)[j]? = some u → (w.alloc (.cells #[] 3)).cell? ((⟨pb, 0, none⟩ : Addr).add j) = some u := by
      intro j u hu
      have hlt := (List.getElem?_eq_some_iff.1 hu).1
      rw [natV_len, H.out.plen] at hlt
      obtain ⟨g', hg', _, _, hcell, _⟩ := H.out.pls.form (by omega)
      simp only [Option.some.injEq, Addr.mk.injEq, and_true] at hg'
      have hc := hcell j (by omega)
      rw [hu] at hc
      have hz : (⟨pb, 0, none⟩ : Addr).add j = ⟨pb, j, none⟩ := by simp [Addr.add]; intro h; exact h.symm
      rw [hz, HPb.out, hg']
      exact (HB0.out.cell (p := ⟨g', j, none⟩) (World.block_lt_of_cell? w _ hc)).trans hc
    have HLn : Hid ((natV Q.pls).length = P.st.length * 1) := by show _ = _; rw [natV_len, H.out.plen]; omega
    rw [← HPb.out] at s6
    clear hml
    go_enter Tryz.func109, Tryz.ntmps109
    go_upto_region 3 with (at_builtin; refine wpList_append_own _ rfl _ _ _ rfl w.heap.size 3 i0 _ 1 8 Tryz.underlying36 hi0 hz0 hz1 hz2 rfl (by omega) (.slice (some ⟨w.heap.size, 0, none⟩) 0 0) 0 [] rfl HE.out ⟨pb, 0, none⟩ P.st.length Q.pcap (natV Q.pls) rfl HLn.out hnews (natV_one _) (by unfold maxLen; omega) (by omega) (by simp) ?_; intro v' w1 hown hgrow hiff)
    rw [Nat.zero_add, List.nil_append] at hown
    obtain ⟨a, mc, rfl⟩ := ownsRow_form' hown
    have HO : Hid (w1.ownsRow w.heap.size 3 1 (.slice a P.st.length mc) P.st.length (natV Q.pls)) := hown
    have HB1 : Hid (Below w.heap.size w w1) := HB0.out.grown hgrow (by simp) (fun k e => by simp only [Value.ownBlock, Option.some.injEq] at e; omega)
    clear hown hgrow hiff HE HB0 hnews c6
    obtain ⟨mb, rfl, hmb⟩ : ∃ mb, a = some ⟨mb, 0, none⟩ ∧ w.heap.size ≤ mb := by
      rcases HO.out.2 with ⟨e, e2⟩ | ⟨g, cap, cur, hv, hh⟩
      · simp only [Value.slice.injEq] at e; omega
      · simp only [Value.slice.injEq] at hv
        exact ⟨g, hv.1, (World.ownsRow.lt HO.out g (by rw [hv.1]; rfl)).1⟩
    have HRow : Hid (Row w1 3 1 (some ⟨mb, 0, none⟩) P.st.length mc (natV Q.pls)) := row_of_owns HO.out
    have H1 : Hid (MemS w0 w1 sb P pa pc ga gc l Q) := H.out.below HB1.out
    have s7 := H1.out.cells.2.2.2.2.2.2.2.1
    have HFr : Hid (Row w1 36 1 Q.fa Q.ms.length Q.fc (Q.ms.map fun m => Value.slice (some ⟨m.1, 0, none⟩) P.st.length m.2)) := H1.out.lst.row
    have HNe : Hid (some mb ∉ (bk Q.fa :: Q.ms.map fun m => some m.1) ∧ mb ≠ sb ∧ mb ≠ Q.pb ∧ w0.heap.size ≤ mb) := by
      have b1 := H.out.bel.size
      have b2 := H.out.box.lt
      have b3 : Q.pb < w.heap.size := H.out.pls.lt (a := some ⟨Q.pb, 0, none⟩) rfl
      exact ⟨fun e => by have := H.out.lst.lt mb e; omega, by omega, by omega, by omega⟩
    obtain ⟨vals, HVs⟩ := hex (Q.ms.map fun m => Value.slice (some ⟨m.1, 0, none⟩) P.st.length m.2)
    rw [← HVs.out] at HFr
    have hsz1 := HB1.out.size
    clear H HB1 HO
    go_wp2_with (at_builtin; go_loud (refine wpList_append_lies _ rfl _ _ _ rfl 0 36 j0 _ 1 24 Tryz.underlying107 hj0 hy0 hy1 hy2 rfl (by omega) (.slice Q.fa Q.ms.length Q.fc) Q.ms.length vals rfl (ownsRow_of_heap HFr.out (fun j hj => Below.heap_alloc _ _ _ hj)) ⟨w1.heap.size, 0, none⟩ 1 1 [.slice (some ⟨mb, 0, none⟩) P.st.length mc] rfl rfl (news_new _ _ (by simp) [.slice (some ⟨mb, 0, none⟩) P.st.length mc] 36) (by simp [Value.oneCell']) (by omega) (by unfold maxLen; omega) (by omega) (by simp) (w1.heap.size + 1) (by simp) ?_; intro g2 cap w2 hown1 hgrow hat hlt1; rw [bk_own] at hgrow hat; have HG : Hid (MemS w0 (w2.setCell ⟨sb, 7, none⟩ (.slice (some ⟨g2, 0, none⟩) (Q.ms.length + 1) cap)) sb P pa pc ga gc l { Q with fa := some ⟨g2, 0, none⟩, fc := cap, ms := Q.ms ++ [(mb, mc)], F := Q.F ++ [Q.pls] } ∧ Blk w2 sb 150 (sqV P pa pc ga gc l.length Q)) := H1.out.app HRow.out HNe.out (w1a := w1.alloc (.cells #[.slice (some ⟨mb, 0, none⟩) P.st.length mc] 36)) ((Below.refl _ _).alloc (Nat.le_refl _) _) (by rw [← HVs.out]; exact hown1) hgrow (hat.imp id (fun e => by simp; omega)); have e7 := HG.out.2.cell 7; have f7 := HG.out.2.frozen 7; simp only [sqV, List.getElem?_cons_succ, List.getElem?_cons_zero] at e7))
    go_end0
    exact ⟨rfl, _, HG.out.1, rfl, rfl, rfl, by omega, rfl, rfl⟩
end Go.Proofs.YtghcololkgeoeabGreat
namespace Go.Proofs.YtghcololkgeoeabGreat
open Go.RowKit
set_option linter.unusedVariables false
set_option linter.unusedSimpArgs false
attribute [local go_sem ↓] Go.wp_at_zero Go.wp_at_succ

theorem take_snoc_drop {n : Nat} {pls pre : List Nat} {z : Nat} (hl : pls.length = n) (hn : pre.length + 1 = n) (h1 : pls.take pre.length = pre) (h2 : pls.drop (n - 1) = [z]) : pls = pre ++ [z] := by
  have : n - 1 = pre.length := by omega
  rw [this] at h2
  rw [← List.take_append_drop pre.length pls, h1, h2]
theorem take_set {pls pre : List Nat} {p : Nat} (h1 : pls.take pre.length = pre) (hlt : pre.length < pls.length) : (pls.set pre.length p).take (pre ++ [p]).length = pre ++ [p] := by
  rw [List.length_append, List.length_cons, List.length_nil, List.take_succ_eq_append_getElem (by simpa using hlt)]
  congr 1
  · rw [List.take_set_of_le (Nat.le_refl _), h1]
  · simp
theorem drop_set {pls : List Nat} {k n p : Nat} {x : List Nat} (hk : k < n) (h : pls.drop n = x) : (pls.set k p).drop n = x := by
  rw [List.drop_set_of_lt hk]; exact h
theorem take_less {pls pre : List Nat} {p : Nat} (h : pls.take (pre ++ [p]).length = pre ++ [p]) : pls.take pre.length = pre := by
  have := congrArg (List.take pre.length) h
  rw [List.take_take] at this
  simpa using this
set_option maxRecDepth 100000 in
set_option maxHeartbeats 4000000 in
theorem lay_any (sb : Nat) (P : Pq) (pa : Option Addr) (pc : Nat) (ga : Option Addr) (gc : Nat) (l : List Ev) (w0 : World) (h1 : 1 ≤ P.st.length) (h3 : P.st.length ≤ 3) (hl : l.length ≤ 1000) (hts : ∀ i, i < l.length → -4398046511104 ≤ (evAt l i).ts ∧ (evAt l i).ts ≤ 4398046511104) : ∀ (m fr : Nat) (pre : List Nat) (S : List (List Nat)) (Q : Sq) (w : World), pre.length + m + 1 = P.st.length → MemS w0 w sb P pa pc ga gc l Q → Q.z < l.length → fr ≤ l.length → Q.pls.take pre.length = pre → Q.pls.drop (P.st.length - 1) = [Q.z] → Res S Q.F Q.more →
    Calls Tryz.prog 104 #[.pointer (some ⟨sb, 0, none⟩), .int .i64 pre.length, .int .i64 fr] w fun e w' => e = .returned (.tuple #[]) ∧ ∃ Q', MemS w0 w' sb P pa pc ga gc l Q' ∧ Q'.z = Q.z ∧ Q'.least = Q.least ∧ Q'.pls.take pre.length = pre ∧ Q'.pls.drop (P.st.length - 1) = [Q.z] ∧ Res (S ++ P.layL l Q.z Q.least m pre fr) Q'.F Q'.more := by
  intro m
  induction m with
  | zero =>
    intro fr pre S Q w hm hM hz hfr ht hd hr
    have hk : ((P.st.length : Int) - 1) ≤ (pre.length : Int) := by omega
    have hn1 : IntKind.i64.wrap ((P.st.length : Int) - 1) = (P.st.length : Int) - 1 := by rw [IntKind.wrap_i64]; omega
    have s6 := hM.cells.2.2.2.2.2.2.1
    have hadd : Calls Tryz.prog 109 #[.pointer (some ⟨sb, 0, none⟩)] w fun e w' => e = .returned (.tuple #[]) ∧ ∃ Q', MemS w0 w' sb P pa pc ga gc l Q' ∧ Q'.z = Q.z ∧ Q'.least = Q.least ∧ Q'.pls.take pre.length = pre ∧ Q'.pls.drop (P.st.length - 1) = [Q.z] ∧ Res (S ++ P.layL l Q.z Q.least 0 pre fr) Q'.F Q'.more := by
      refine (add_any sb P pa pc ga gc l Q w0 w hM h1 h3 hr.len).mono ?_
      rintro e w' ⟨he, Q', hM', hz', hl', hp', hh⟩
      have hpl := take_snoc_drop hM.plen (by omega) ht hd
      refine ⟨he, Q', hM', hz', hl', by rw [hp']; exact ht, by rw [hp']; exact hd, ?_⟩
      show Res (S ++ [pre ++ [Q.z]]) _ _
      rw [← hpl]
      rcases hh with ⟨a, b, c⟩ | ⟨a, b, c⟩
      · rw [b, c]; exact hr.full _ a
      · rw [b, c]; exact (hr.add _ a).1
    obtain ⟨LL, HLL⟩ := hex (P.layL l Q.z Q.least 0 pre fr)
    rw [← HLL.out] at hadd ⊢
    clear HLL hr hd ht hM
    go_enter Tryz.func104, Tryz.ntmps104
    go_wp2_with (go_at_call 109; refine hadd.mono ?_; rintro e w' ⟨rfl, hq⟩)
    (try simp only [Exit.inBlock, Exit.then])
    refine bodyPost_ret (results_none rfl _ _ _) rfl ?_
    exact ⟨rfl, hq⟩
  | succ m ih =>
    intro fr pre S Q w hm hM hz hfr ht hd hr
    have hk : ¬ ((P.st.length : Int) - 1) ≤ (pre.length : Int) := by omega
    have hn1 : IntKind.i64.wrap ((P.st.length : Int) - 1) = (P.st.length : Int) - 1 := by rw [IntKind.wrap_i64]; omega
    have s6 := hM.cells.2.2.2.2.2.2.1
    obtain ⟨k, hke⟩ : ∃ k, pre.length = k := ⟨_, rfl⟩
    have HIH : Hid (∀ (fr : Nat) (pre : List Nat) (S : List (List Nat)) (Q : Sq) (w : World), pre.length + m + 1 = P.st.length → MemS w0 w sb P pa pc ga gc l Q → Q.z < l.length → fr ≤ l.length → Q.pls.take pre.length = pre → Q.pls.drop (P.st.length - 1) = [Q.z] → Res S Q.F Q.more →
      Calls Tryz.prog 104 #[.pointer (some ⟨sb, 0, none⟩), .int .i64 pre.length, .int .i64 fr] w fun e w' => e = .returned (.tuple #[]) ∧ ∃ Q', MemS w0 w' sb P pa pc ga gc l Q' ∧ Q'.z = Q.z ∧ Q'.least = Q.least ∧ Q'.pls.take pre.length = pre ∧ Q'.pls.drop (P.st.length - 1) = [Q.z] ∧ Res (S ++ P.layL l Q.z Q.least m pre fr) Q'.F Q'.more) := ih
    clear ih
    obtain ⟨SW, HSW⟩ := hex (fun q : Nat => sweep (fun p => if P.fits l Q.z Q.least pre.length p then P.layL l Q.z Q.least m (pre ++ [p]) (p + 1) else []) (fun p => P.bar l Q.z pre.length p) (List.range' q (Q.z - q)))
    have HS0 : Hid (P.layL l Q.z Q.least (m + 1) pre fr = SW fr) := by show _ = _; rw [HSW.out]; rfl
    have HSs : Hid (∀ q, q < Q.z → SW q = (if P.fits l Q.z Q.least pre.length q then P.layL l Q.z Q.least m (pre ++ [q]) (q + 1) else []) ++ (if P.bar l Q.z pre.length q then [] else SW (q + 1))) := by
      intro q hq
      rw [HSW.out]
      show sweep _ _ (List.range' q (Q.z - q)) = _
      rw [range'_succ hq]; rfl
    have HSe : Hid (∀ q, Q.z ≤ q → SW q = []) := by
      intro q hq
      rw [HSW.out]
      show sweep _ _ (List.range' q (Q.z - q)) = _
      rw [range'_done hq]; rfl
    have HI0 : Hid (MemS w0 w sb P pa pc ga gc l Q ∧ Q.pls.take pre.length = pre ∧ Q.pls.drop (P.st.length - 1) = [Q.z] ∧ Res S Q.F Q.more) := ⟨hM, ht, hd, hr⟩
    obtain ⟨LL, HLL⟩ := hex (P.layL l Q.z Q.least (m + 1) pre fr)
    rw [← HLL.out] at HS0 ⊢
    obtain ⟨z, HZ⟩ := hex Q.z
    obtain ⟨le, HLe⟩ := hex Q.least
    rw [← HZ.out] at hz hd HSs HSe ⊢
    rw [← HLe.out] at HSs ⊢
    rw [hke] at hk
    have hkn : k < P.st.length := by omega
    clear HSW HLL hr hd ht hM
    rw [hke]
    go_enter Tryz.func104, Tryz.ntmps104
    go_wp2
    go_loopw [6] (fun iv wr => ∃ (q : Nat) (T : List (List Nat)) (Q2 : Sq), iv = .int .i64 q ∧ q ≤ l.length ∧ MemS w0 wr sb P pa pc ga gc l Q2 ∧ Q2.z = z ∧ Q2.least = le ∧ Q2.pls.take pre.length = pre ∧ Q2.pls.drop (P.st.length - 1) = [z] ∧ Res (S ++ T) Q2.F Q2.more ∧ LL = T ++ SW q) (fun iv _ => l.length - (intOf iv).toNat)
    case atStart => exact ⟨fr, [], Q, rfl, hfr, HI0.out.1, HZ.out.symm, HLe.out.symm, HI0.out.2.1, by rw [HZ.out]; exact HI0.out.2.2.1, by rw [List.append_nil]; exact HI0.out.2.2.2, HS0.out⟩
    case round =>
      clear HI0 HS0 s6
      obtain ⟨q, T, Q2, rfl, hq, hM, hz2, hle2, ht, hd, hr, hL⟩ := hrel
      have s4 := hM.cells.2.2.2.2.1
      have s8 := hM.cells.2.2.2.2.2.2.2.2
      rw [hz2] at s4
      have HM : Hid (MemS w0 wr sb P pa pc ga gc l Q2 ∧ Q2.z = z ∧ Q2.least = le) := ⟨hM, hz2, hle2⟩
      have HT : Hid (Q2.pls.take pre.length = pre ∧ Q2.pls.drop (P.st.length - 1) = [z]) := ⟨ht, hd⟩
      have HR : Hid (Res (S ++ T) Q2.F Q2.more) := hr
      have HL : Hid (LL = T ++ SW q) := hL
      clear hM hz2 hle2 ht hd hr hL
      by_cases hqz : q < z
      · have hqz' : (q : Int) < (z : Int) := by omega
        have hq0 : (0 : Int) ≤ (q : Int) := by omega
        cases hmo : Q2.more with
        | true =>
          rw [hmo] at s8
          have HRt : Hid (Res (S ++ LL) Q2.F Q2.more) := by
            have h := HR.out
            rw [hmo] at h
            have h2 := h.stop (SW q)
            show Res _ _ _
            rw [HL.out, ← List.append_assoc, hmo]; exact h2
          clear hmo
          go_wp2
          go_end0
          exact ⟨rfl, Q2, HM.out.1, HM.out.2.1, HM.out.2.2, by rw [← hke]; exact HT.out.1, HT.out.2, HRt.out⟩
        | false =>
          rw [hmo] at s8
          have hfi : Calls Tryz.prog 110 #[.pointer (some ⟨sb, 0, none⟩), .int .i64 k, .int .i64 q] wr fun e w' => e = .returned (.bool (P.fits l z le pre.length q)) ∧ ∃ n, w' = wr.drewN n := by
            obtain ⟨hM, hz2, hle2⟩ := HM.out
            have := fits_any sb P pa pc ga gc l Q2 w0 wr hM k q hkn h3 (by omega) (by rw [hz2]; exact hz) hts
            rw [hz2, hle2] at this
            rw [hke]; exact this
          have hba : ∀ (Q3 : Sq) (u : World), MemS w0 u sb P pa pc ga gc l Q3 → Q3.z = z → Calls Tryz.prog 108 #[.pointer (some ⟨sb, 0, none⟩), .int .i64 k, .int .i64 q] u fun e w' => e = .returned (.bool (P.bar l z pre.length q)) ∧ MemS w0 w' sb P pa pc ga gc l Q3 := fun Q3 u hM3 hz3 => by
            have := barred_any sb P pa pc ga gc l Q3 w0 u hM3 k q hkn (by omega) (by rw [hz3]; exact hz)
            rw [hz3] at this
            rw [hke]; exact this.mono fun e w' ⟨he, n, hn⟩ => ⟨he, by rw [hn]; exact hM3.drewN n⟩
          obtain ⟨fv, HFv⟩ := hex (P.fits l z le pre.length q)
          obtain ⟨bv, HBv⟩ := hex (P.bar l z pre.length q)
          rw [← HFv.out] at hfi
          rw [← HBv.out] at hba
          have HSq : Hid (SW q = (if fv then P.layL l z le m (pre ++ [q]) (q + 1) else []) ++ (if bv then [] else SW (q + 1))) := by show _ = _; rw [HSs.out q hqz, HFv.out, HBv.out]
          clear hmo HFv HBv
          cases fv with
          | false =>
            cases bv with
            | true =>
              have HE : Hid (LL = T) := by show _ = _; rw [HL.out, HSq.out]; simp
              go_wp2_with (first | (go_at_call 110; refine hfi.mono ?_; rintro e u1 ⟨rfl, m1, rfl⟩) | (go_at_call 108; refine (hba Q2 _ (HM.out.1.drewN m1) HM.out.2.1).mono ?_; rintro e u2 ⟨rfl, hu2⟩))
              (try simp only [Exit.inBlock, Exit.then])
              refine bodyPost_ret (results_none rfl _ _ _) rfl ?_
              exact ⟨rfl, Q2, hu2, HM.out.2.1, HM.out.2.2, by rw [← hke]; exact HT.out.1, HT.out.2, by rw [HE.out]; exact HR.out⟩
            | false =>
              have HE : Hid (LL = T ++ SW (q + 1)) := by show _ = _; rw [HL.out, HSq.out]; simp
              go_wp2_with (first | (go_at_call 110; refine hfi.mono ?_; rintro e u1 ⟨rfl, m1, rfl⟩) | (go_at_call 108; refine (hba Q2 _ (HM.out.1.drewN m1) HM.out.2.1).mono ?_; rintro e u2 ⟨rfl, hu2⟩))
              go_roundw
              case rel => exact ⟨q + 1, T, Q2, by go_num, by omega, hu2, HM.out.2.1, HM.out.2.2, HT.out.1, HT.out.2, HR.out, HE.out⟩
              case measure => simp [intOf]; omega
          | true =>
            have hla : ∀ u, MemS w0 u sb P pa pc ga gc l { Q2 with pls := Q2.pls.set k q } → Calls Tryz.prog 104 #[.pointer (some ⟨sb, 0, none⟩), .int .i64 ((k : Int) + 1), .int .i64 ((q : Int) + 1)] u fun e w' => e = .returned (.tuple #[]) ∧ ∃ Q', MemS w0 w' sb P pa pc ga gc l Q' ∧ Q'.z = z ∧ Q'.least = le ∧ Q'.pls.take pre.length = pre ∧ Q'.pls.drop (P.st.length - 1) = [z] ∧ Res (S ++ (T ++ P.layL l z le m (pre ++ [q]) (q + 1))) Q'.F Q'.more := fun u hu => by
              obtain ⟨hM, hz2, hle2⟩ := HM.out
              have hpl : pre.length < Q2.pls.length := by rw [hM.plen]; omega
              have := HIH.out (q + 1) (pre ++ [q]) (S ++ T) { Q2 with pls := Q2.pls.set k q } u (by simp; omega) hu (by show Q2.z < _; rw [hz2]; exact hz) (by omega) (by rw [← hke]; exact take_set HT.out.1 hpl) (by rw [show ({ Q2 with pls := Q2.pls.set k q } : Sq).z = z from hz2]; exact drop_set (by omega) HT.out.2) HR.out
              rw [show ((pre ++ [q]).length : Int) = (k : Int) + 1 by simp [hke], show ((q + 1 : Nat) : Int) = (q : Int) + 1 by omega] at this
              refine this.mono ?_
              rintro e w' ⟨he, Q', m1, m2, m3, m4, m5, m6⟩
              have m2 : Q'.z = Q2.z := m2
              have m3 : Q'.least = Q2.least := m3
              refine ⟨he, Q', m1, m2.trans hz2, m3.trans hle2, take_less m4, ?_, ?_⟩
              · rw [m5]; show [Q2.z] = [z]; rw [hz2]
              · rw [← List.append_assoc, ← hz2, ← hle2]; exact m6
            have hw1 : IntKind.i64.wrap ((k : Int) + 1) = (k : Int) + 1 := by rw [IntKind.wrap_i64]; omega
            have hw2 : IntKind.i64.wrap ((q : Int) + 1) = (q : Int) + 1 := by rw [IntKind.wrap_i64]; omega
            have hk0 : (0 : Int) ≤ (k : Int) := by omega
            have hkn' : (k : Int) < (P.st.length : Int) := by omega
            have s6 := HM.out.1.cells.2.2.2.2.2.2.1
            obtain ⟨pb, HPb⟩ := hex Q2.pb
            have HPut : Hid (∀ n, MemS w0 ((wr.drewN n).setCell ⟨pb, k, none⟩ (.int .i64 q)) sb P pa pc ga gc l { Q2 with pls := Q2.pls.set k q }) := fun n => by rw [HPb.out]; exact (HM.out.1.drewN n).put k q
            obtain ⟨xv, hx⟩ : ∃ xv, wr.cell? ⟨pb, k, none⟩ = some xv := by
              rw [HPb.out]
              obtain ⟨g', hg', _, _, hcell, _⟩ := HM.out.1.pls.form (by omega)
              simp only [Option.some.injEq, Addr.mk.injEq, and_true] at hg'
              have hc := hcell k (by omega)
              rw [hg', hc, List.getElem?_eq_getElem (by rw [natV_len, HM.out.1.plen]; exact hkn)]
              exact ⟨_, rfl⟩
            have fz : wr.frozen? ⟨pb, k, none⟩ = false := by
              rw [HPb.out]
              obtain ⟨g', hg', _, _, _, hf⟩ := HM.out.1.pls.form (by omega)
              simp only [Option.some.injEq, Addr.mk.injEq, and_true] at hg'
              rw [hg']; exact hf k
            rw [← HPb.out] at s6
            cases bv with
            | true =>
              have HE : Hid (LL = T ++ P.layL l z le m (pre ++ [q]) (q + 1)) := by show _ = _; rw [HL.out, HSq.out]; simp
              go_wp2_with (first | (go_at_call 110; refine hfi.mono ?_; rintro e u1 ⟨rfl, m1, rfl⟩) | (go_at_call 104; refine (hla _ (HPut.out m1)).mono ?_; rintro e u2 ⟨rfl, Q3, hu2, z3, le3, t3, d3, r3⟩) | (go_at_call 108; refine (hba Q3 _ hu2 z3).mono ?_; rintro e u3 ⟨rfl, hu3⟩))
              (try simp only [Exit.inBlock, Exit.then])
              refine bodyPost_ret (results_none rfl _ _ _) rfl ?_
              exact ⟨rfl, Q3, hu3, z3, le3, by rw [← hke]; exact t3, d3, by rw [HE.out]; exact r3⟩
            | false =>
              have HE : Hid (LL = (T ++ P.layL l z le m (pre ++ [q]) (q + 1)) ++ SW (q + 1)) := by show _ = _; rw [HL.out, HSq.out]; simp
              go_wp2_with (first | (go_at_call 110; refine hfi.mono ?_; rintro e u1 ⟨rfl, m1, rfl⟩) | (go_at_call 104; refine (hla _ (HPut.out m1)).mono ?_; rintro e u2 ⟨rfl, Q3, hu2, z3, le3, t3, d3, r3⟩) | (go_at_call 108; refine (hba Q3 _ hu2 z3).mono ?_; rintro e u3 ⟨rfl, hu3⟩))
              go_roundw
              case rel => exact ⟨q + 1, T ++ P.layL l z le m (pre ++ [q]) (q + 1), Q3, by go_num, by omega, hu3, z3, le3, t3, d3, r3, HE.out⟩
              case measure => simp [intOf]; omega
      · have hqz' : ¬ (q : Int) < (z : Int) := by omega
        have HRt : Hid (Res (S ++ LL) Q2.F Q2.more) := by
          have h := HR.out
          show Res _ _ _
          rw [HL.out, HSe.out q (by omega), List.append_nil]; exact h
        have hdz : decide ((q : Int) < (z : Int)) = false := by simpa using hqz
        go_wp2
        go_end0
        exact ⟨rfl, Q2, HM.out.1, HM.out.2.1, HM.out.2.2, by rw [← hke]; exact HT.out.1, HT.out.2, HRt.out⟩
end Go.Proofs.YtghcololkgeoeabGreat
namespace Go.Proofs.YtghcololkgeoeabGreat
open Go.RowKit
set_option linter.unusedVariables false
set_option linter.unusedSimpArgs false
attribute [local go_sem ↓] Go.wp_at_zero Go.wp_at_succ
set_option maxRecDepth 100000 in
set_option maxHeartbeats 2000000 in
theorem endAt_any (sb : Nat) (P : Pq) (pa : Option Addr) (pc : Nat) (ga : Option Addr) (gc : Nat) (l : List Ev) (w0 : World) (k : Nat) (hk : P.st.length = k + 1) (h3 : k + 1 ≤ 3) (hl : l.length ≤ 1000) (hts : ∀ i, i < l.length → -4398046511104 ≤ (evAt l i).ts ∧ (evAt l i).ts ≤ 4398046511104) (z : Nat) (Q : Sq) (w : World) (S : List (List Nat)) (h : MemS w0 w sb P pa pc ga gc l Q) (hz : z < l.length) (hr : Res S Q.F Q.more) :
    Calls Tryz.prog 95 #[.pointer (some ⟨sb, 0, none⟩), .int .i64 z] w fun e w' => e = .returned (.tuple #[]) ∧ ∃ Q', MemS w0 w' sb P pa pc ga gc l Q' ∧ Res (S ++ P.layL l z (near (P.bar l z k) (z - 1)) k [] 0) Q'.F Q'.more := by
  obtain ⟨pb, HPb⟩ := hex Q.pb
  have s6 := h.cells.2.2.2.2.2.2.1
  rw [← HPb.out, hk] at s6
  have hn1 : IntKind.i64.wrap (((k + 1 : Nat) : Int) - 1) = (k : Int) := by rw [IntKind.wrap_i64]; omega
  have H1 : Hid (MemS w0 (w.setCell ⟨sb, 4, none⟩ (.int .i64 z)) sb P pa pc ga gc l { Q with z := z }) := h.setBox 4 (.int .i64 z) _ ⟨rfl, rfl, rfl, rfl, rfl, rfl, rfl⟩ rfl
  have H2 : Hid (MemS w0 ((w.setCell ⟨sb, 4, none⟩ (.int .i64 z)).setCell ⟨pb, k, none⟩ (.int .i64 z)) sb P pa pc ga gc l { Q with z := z, pls := Q.pls.set k z }) := by show MemS _ _ _ _ _ _ _ _ _ _; rw [HPb.out]; exact H1.out.put k z
  have s4 := h.cells.2.2.2.2.1
  have f4 := h.box.frozen 4
  obtain ⟨w1, HW1⟩ := hex (w.setCell ⟨sb, 4, none⟩ (.int .i64 z))
  have hw1 : w.setCell ⟨sb, 4, none⟩ (.int .i64 z) = w1 := HW1.out.symm
  rw [hw1] at H1 H2
  have s61 : w1.cell? ⟨sb, 6, none⟩ = some (.slice (some ⟨pb, 0, none⟩) (k + 1) Q.pcap) := by rw [HPb.out, ← hk]; exact H1.out.cells.2.2.2.2.2.2.1
  obtain ⟨xv, hx⟩ : ∃ xv, w1.cell? ⟨pb, k, none⟩ = some xv := by
    rw [HPb.out]
    obtain ⟨g', hg', _, _, hcell, _⟩ := H1.out.pls.form (by omega)
    simp only [Option.some.injEq, Addr.mk.injEq, and_true] at hg'
    have hc := hcell k (by omega)
    rw [hg', hc, List.getElem?_eq_getElem (by rw [natV_len, H1.out.plen]; omega)]
    exact ⟨_, rfl⟩
  have fz : w1.frozen? ⟨pb, k, none⟩ = false := by
    rw [HPb.out]
    obtain ⟨g', hg', _, _, _, hf⟩ := H1.out.pls.form (by omega)
    simp only [Option.some.injEq, Addr.mk.injEq, and_true] at hg'
    rw [hg']; exact hf k
  have hkk : (k : Int) < ((k + 1 : Nat) : Int) := by omega
  have hk0 : (0 : Int) ≤ (k : Int) := by omega
  obtain ⟨w2, HW2⟩ := hex (w1.setCell ⟨pb, k, none⟩ (.int .i64 z))
  have hw2 : w1.setCell ⟨pb, k, none⟩ (.int .i64 z) = w2 := HW2.out.symm
  rw [hw2] at H2
  have hne : Calls Tryz.prog 103 #[.pointer (some ⟨sb, 0, none⟩), .int .i64 k] w2 fun e w' => e = .returned (.int .i64 (near (P.bar l z k) (z - 1))) ∧ ∃ n, w' = w2.drewN n := near_any sb P pa pc ga gc l _ w0 w2 H2.out k (by omega) hz hl
  obtain ⟨nv, HNv⟩ := hex (near (P.bar l z k) (z - 1))
  rw [← HNv.out] at hne ⊢
  have H3 : Hid (∀ n, MemS w0 ((w2.drewN n).setCell ⟨sb, 5, none⟩ (.int .i64 nv)) sb P pa pc ga gc l { Q with z := z, pls := Q.pls.set k z, least := nv }) := fun n => (H2.out.drewN n).setBox 5 (.int .i64 nv) _ ⟨rfl, rfl, rfl, rfl, rfl, rfl, rfl⟩ rfl
  have s52 := H2.out.cells.2.2.2.2.2.1
  have f52 := H2.out.box.frozen 5
  have hla : ∀ n, Calls Tryz.prog 104 #[.pointer (some ⟨sb, 0, none⟩), .int .i64 0, .int .i64 0] ((w2.drewN n).setCell ⟨sb, 5, none⟩ (.int .i64 nv)) fun e w' => e = .returned (.tuple #[]) ∧ ∃ Q', MemS w0 w' sb P pa pc ga gc l Q' ∧ Res (S ++ P.layL l z nv k [] 0) Q'.F Q'.more := fun n => by
    have hpl : Q.pls.length = k + 1 := by rw [h.plen, hk]
    refine (lay_any sb P pa pc ga gc l w0 (by omega) (by omega) hl hts k 0 [] S _ _ (by simp; omega) (H3.out n) hz (by omega) rfl ?_ hr).mono ?_
    · show (Q.pls.set k z).drop (P.st.length - 1) = [z]
      rw [hk, show k + 1 - 1 = k by omega, List.drop_eq_getElem_cons (by simp; omega)]
      simp
      omega
    · rintro e w' ⟨he, Q', m1, _, _, _, _, m6⟩
      exact ⟨he, Q', m1, m6⟩
  obtain ⟨LL, HLL⟩ := hex (P.layL l z nv k [] 0)
  rw [← HLL.out] at hla ⊢
  clear H1 H2 H3 h hr HLL HNv HW1 HW2 HPb
  go_enter Tryz.func95, Tryz.ntmps95
  go_wp2_with (first | (go_at_call 103; go_loud (refine hne.mono ?_; rintro e u1 ⟨rfl, m1, rfl⟩)) | (go_at_call 104; go_loud (refine (hla _).mono ?_; rintro e u2 ⟨rfl, hq⟩)))
  go_end0
  exact ⟨rfl, hq⟩
set_option maxRecDepth 100000 in
set_option maxHeartbeats 2000000 in
theorem find_any (P : Pq) (pa : Option Addr) (pc : Nat) (ga : Option Addr) (gc : Nat) (l : List Ev) (w : World) (n : Nat) (hn : P.st.length = n) (hst : StAt w pa P.st) (hev : EvC w ga l) (h3 : n ≤ 3) (hl : l.length ≤ 1000) (hts : ∀ i, i < l.length → -4398046511104 ≤ (evAt l i).ts ∧ (evAt l i).ts ≤ 4398046511104) :
    Calls Tryz.prog 79 #[.agg #[.slice pa n pc, .bool P.sm, .int .i64 P.wn], .slice ga l.length gc] w fun e w' => ∃ a c ms, e = .returned (.tuple #[.slice a (List.length ms) c, .bool (decide (100 < (P.findL l).length))]) ∧ LsAt w' w.heap.size a c ms n ((P.findL l).take 100) ∧ Below w.heap.size w w' := by
  obtain ⟨FL, HFL⟩ := hex (P.findL l)
  rw [← HFL.out]
  obtain ⟨nl, HNl⟩ := hex l.length
  rw [← HNl.out]
  by_cases hn0 : n = 0
  · subst hn0
    have HE : Hid (FL = []) := by show _ = _; rw [HFL.out]; unfold Pq.findL; rw [if_pos hn]
    go_enter Tryz.func79, Tryz.ntmps79
    go_wp2
    go_ret2
    refine ⟨none, 0, [], ?_, ⟨Row.nil _ _ _, ?_, ?_, ?_, ?_⟩, (Below.refl _ _).alloc (Nat.le_refl _) _⟩
    · rw [HE.out]; rfl
    · rw [HE.out]; rfl
    · intro i m f hm; simp at hm
    · intro i j k hi; cases i <;> simp [bk] at hi
    · intro k hk; simp [bk] at hk
  · have hnb : ((n : Int) == 0) = false := by rw [beq_eq_false_iff_ne]; omega
    obtain ⟨j0, hj0, hy0, hy1, hy2⟩ := info_parts Tryz.infoInt
    have HP : Hid (StAt w pa P.st ∧ EvC w ga l ∧ P.st.length = n ∧ l.length ≤ 1000 ∧ nl = l.length) := ⟨hst, hev, hn, hl, HNl.out⟩
    have HTs : Hid (∀ i, i < l.length → -4398046511104 ≤ (evAt l i).ts ∧ (evAt l i).ts ≤ 4398046511104) := hts
    have hnl : nl ≤ 1000 := by rw [HNl.out]; exact hl
    clear hst hev hl hts HNl
    go_enter Tryz.func79, Tryz.ntmps79
    go_upto_region 4 with fail
    have HB1 : Hid (Below w.heap.size w (w.alloc (.cells #[.slice pa n pc, .bool P.sm, .int .i64 P.wn] 83)) ∧ Blk (w.alloc (.cells #[.slice pa n pc, .bool P.sm, .int .i64 P.wn] 83)) w.heap.size 83 [.slice pa n pc, .bool P.sm, .int .i64 P.wn]) := ⟨(Below.refl _ _).alloc (Nat.le_refl _) _, blk_alloc _ _ _⟩
    obtain ⟨bp, HBp⟩ := hex w.heap.size
    obtain ⟨w1, HW1⟩ := hex (w.alloc (.cells #[.slice pa n pc, .bool P.sm, .int .i64 P.wn] 83))
    rw [← HW1.out, ← HBp.out]
    rw [← HW1.out, ← HBp.out] at HB1
    have p0 := HB1.out.2.cell 0
    have p1 := HB1.out.2.cell 1
    have p2 := HB1.out.2.cell 2
    simp only [List.getElem?_cons_succ, List.getElem?_cons_zero] at p0 p1 p2
    have hmk := run_makeSlice_full (P := Tryz.prog) w1.drew w1.heap.size 36 3 j0 _ 1 Tryz.underlying36 hj0 hy0 hy1 .i64 .i64 n (by omega) (by rw [hy2]; omega) (by unfold maxLen; omega) (Nat.le_refl _)
    obtain ⟨wm, hrun, hownm, hgm⟩ := hmk
    have hmk2 := run_makeSlice_full (P := Tryz.prog) (w1.alloc (.cells #[.slice none 0 0, .bool false, .int .i64 0, .slice none 0 0, .int .i64 0, .int .i64 0, .slice none 0 0, .slice none 0 0, .bool false] 150)).drew (w1.heap.size + 1) 36 3 j0 _ 1 Tryz.underlying36 hj0 hy0 hy1 .i64 .i64 n (by omega) (by rw [hy2]; omega) (by unfold maxLen; omega) (by simp)
    obtain ⟨wm2, hrun2, hownm2, hgm2⟩ := hmk2
    have hsz2 : (w1.alloc (.cells #[.slice none 0 0, .bool false, .int .i64 0, .slice none 0 0, .int .i64 0, .int .i64 0, .slice none 0 0, .slice none 0 0, .bool false] 150)).drew.heap.size = w1.heap.size + 1 := by simp
    rw [hsz2] at hownm2
    clear hsz2
    have hbm : Below w1.heap.size w1 wm := by
      have b1 : Below w1.heap.size w1 w1.drew := ⟨rfl, rfl, rfl, Nat.le_refl _, fun _ _ => rfl⟩
      exact b1.grown hgm b1.size (fun k e => by simp at e)
    have HZ2 : Hid (Blk wm2 w1.heap.size 150 [.slice none 0 0, .bool false, .int .i64 0, .slice none 0 0, .int .i64 0, .int .i64 0, .slice none 0 0, .slice none 0 0, .bool false] ∧ Below w1.heap.size w1 wm2) := by
      have b1 : Below w1.heap.size w1 (w1.alloc (.cells #[.slice none 0 0, .bool false, .int .i64 0, .slice none 0 0, .int .i64 0, .int .i64 0, .slice none 0 0, .slice none 0 0, .bool false] 150)).drew := ((Below.refl _ _).alloc (Nat.le_refl _) _).drew
      exact ⟨Blk.grown (Blk.drew (blk_alloc w1 [.slice none 0 0, .bool false, .int .i64 0, .slice none 0 0, .int .i64 0, .int .i64 0, .slice none 0 0, .slice none 0 0, .bool false] 150)) hgm2 (by simp), b1.grown hgm2 b1.size (fun k e => by simp at e)⟩
    have hbp : bp < w1.heap.size := HB1.out.2.lt
    have q0 := (hbm.cell (p := ⟨bp, 0, none⟩) hbp).trans p0
    have q1 := (hbm.cell (p := ⟨bp, 1, none⟩) hbp).trans p1
    have q2 := (hbm.cell (p := ⟨bp, 2, none⟩) hbp).trans p2
    have r0 := (HZ2.out.2.cell (p := ⟨bp, 0, none⟩) hbp).trans p0
    have r1 := (HZ2.out.2.cell (p := ⟨bp, 1, none⟩) hbp).trans p1
    have r2 := (HZ2.out.2.cell (p := ⟨bp, 2, none⟩) hbp).trans p2
    have t0 : ∀ o, (wm.alloc o).cell? ⟨bp, 0, none⟩ = _ := fun o => (((Below.refl wm.heap.size wm).alloc (Nat.le_refl _) o).cell (p := ⟨bp, 0, none⟩) (Nat.lt_of_lt_of_le hbp hbm.size)).trans q0
    have v0 : ∀ o, (w1.alloc o).cell? ⟨bp, 0, none⟩ = _ := fun o => (((Below.refl w1.heap.size w1).alloc (Nat.le_refl _) o).cell (p := ⟨bp, 0, none⟩) hbp).trans p0
    have t1 : ∀ o, (wm.alloc o).cell? ⟨bp, 1, none⟩ = _ := fun o => (((Below.refl wm.heap.size wm).alloc (Nat.le_refl _) o).cell (p := ⟨bp, 1, none⟩) (Nat.lt_of_lt_of_le hbp hbm.size)).trans q1
    have v1 : ∀ o, (w1.alloc o).cell? ⟨bp, 1, none⟩ = _ := fun o => (((Below.refl w1.heap.size w1).alloc (Nat.le_refl _) o).cell (p := ⟨bp, 1, none⟩) hbp).trans p1
    have t2 : ∀ o, (wm.alloc o).cell? ⟨bp, 2, none⟩ = _ := fun o => (((Below.refl wm.heap.size wm).alloc (Nat.le_refl _) o).cell (p := ⟨bp, 2, none⟩) (Nat.lt_of_lt_of_le hbp hbm.size)).trans q2
    have v2 : ∀ o, (w1.alloc o).cell? ⟨bp, 2, none⟩ = _ := fun o => (((Below.refl w1.heap.size w1).alloc (Nat.le_refl _) o).cell (p := ⟨bp, 2, none⟩) hbp).trans p2
    have c0 := HZ2.out.1.cell 0
    have f0 := HZ2.out.1.frozen 0
    have c1 := HZ2.out.1.cell 1
    have f1 := HZ2.out.1.frozen 1
    have c2 := HZ2.out.1.cell 2
    have f2 := HZ2.out.1.frozen 2
    have c3 := HZ2.out.1.cell 3
    have f3 := HZ2.out.1.frozen 3
    have c4 := HZ2.out.1.cell 4
    have f4 := HZ2.out.1.frozen 4
    have c5 := HZ2.out.1.cell 5
    have f5 := HZ2.out.1.frozen 5
    have c6 := HZ2.out.1.cell 6
    have f6 := HZ2.out.1.frozen 6
    have c7 := HZ2.out.1.cell 7
    have f7 := HZ2.out.1.frozen 7
    have c8 := HZ2.out.1.cell 8
    have f8 := HZ2.out.1.frozen 8
    simp only [List.getElem?_cons_succ, List.getElem?_cons_zero] at c0 c1 c2 c3 c4 c5 c6 c7 c8
    have HQ : Hid (∀ pb sb : Nat, sqV P pa pc ga gc l.length ⟨pb, n, 0, 0, List.replicate n 0, none, 0, [], [], false⟩ = [.slice pa n pc, .bool P.sm, .int .i64 P.wn, .slice ga nl gc, .int .i64 0, .int .i64 0, .slice (some ⟨pb, 0, none⟩) n n, .slice none 0 0, .bool false]) := by
      intro pb sb
      unfold sqV
      rw [HP.out.2.2.1, HP.out.2.2.2.2]; rfl
    have HMk : Hid ((madeCells (Value.int IntKind.i64 0).cells (n * 1)).toList = natV (List.replicate n 0)) := by
      show _ = _
      rw [show (Value.int IntKind.i64 0).cells = #[Value.int .i64 0] from rfl, toList_madeCells_one, Nat.mul_one]; unfold natV; simp
    have HL0 : Hid (∀ u, LsAt u w1.heap.size none 0 [] n []) := fun u => ⟨Row.nil _ _ _, rfl, fun i m f hm => by simp at hm, fun i j k hi => by cases i <;> simp [bk] at hi, fun k hk => by simp [bk] at hk⟩
    have HSt : Hid (StAt w1 pa P.st ∧ EvC w1 ga l) := by
      have hb := HB1.out.1
      rw [HBp.out] at hb
      exact ⟨HP.out.1.below hb, HP.out.2.1.below hb⟩
    have hsz1 : w1.heap.size ≤ wm.heap.size := hbm.size
    have hpm : w1.heap.size < wm.heap.size := hownm.lt w1.heap.size rfl |>.2
    have hpm2 : w1.heap.size + 1 < wm2.heap.size := (World.ownsRow.lt hownm2 (w1.heap.size + 1) (by simp [Value.ownBlock])).2
    go_cut [7, 17, 18] (fun s7 s17 s18 wx => ∃ sb Q, s7 = .pointer (some ⟨sb, 0, none⟩) ∧ MemS w1 wx sb P pa pc ga gc l Q ∧ Q.F = [] ∧ Q.more = false)
    case first =>
      have HMA : Hid (MemS w1 (wm.alloc (.cells #[.slice pa n pc, .bool P.sm, .int .i64 P.wn, .slice ga nl gc, .int .i64 0, .int .i64 0, .slice (some ⟨w1.heap.size, 0, none⟩) n n, .slice none 0 0, .bool false] 150)) wm.heap.size P pa pc ga gc l ⟨w1.heap.size, n, 0, 0, List.replicate n 0, none, 0, [], [], false⟩) := by
        have hb : Below w1.heap.size w1 (wm.alloc (.cells #[.slice pa n pc, .bool P.sm, .int .i64 P.wn, .slice ga nl gc, .int .i64 0, .int .i64 0, .slice (some ⟨w1.heap.size, 0, none⟩) n n, .slice none 0 0, .bool false] 150)) := hbm.alloc hbm.size _
        refine ⟨hb, HSt.out.1, HSt.out.2, ?_, ⟨hsz1, Nat.le_refl _, by show _ ≠ w1.heap.size; omega⟩, ?_, by simp [HP.out.2.2.1], by rw [HP.out.2.2.1]; exact HL0.out _, fun k hk => by simp [bk] at hk⟩
        · rw [HQ.out w1.heap.size 0]; exact blk_alloc wm _ _
        · rw [HP.out.2.2.1]
          refine Row.kept (row_of_owns (by rw [← HMk.out]; exact hownm)) ((Kept.refl (fun _ => False) wm).alloc _) (fun _ _ e => e)
      have HMB : Hid (∀ u, Blk u w1.heap.size 150 [.slice pa n pc, .bool P.sm, .int .i64 P.wn, .slice ga nl gc, .int .i64 0, .int .i64 0, .slice (some ⟨w1.heap.size + 1, 0, none⟩) n n, .slice none 0 0, .bool false] → Kept (fun k => k = w1.heap.size) wm2 u → MemS w1 u w1.heap.size P pa pc ga gc l ⟨w1.heap.size + 1, n, 0, 0, List.replicate n 0, none, 0, [], [], false⟩) := by
        intro u hu K
        refine ⟨kept_toBelow HZ2.out.2 K (fun i e => by rw [e]; exact Nat.le_refl _), HSt.out.1, HSt.out.2, ?_, ⟨Nat.le_refl _, Nat.le_succ _, by show _ ≠ w1.heap.size + 1; omega⟩, ?_, by simp [HP.out.2.2.1], by rw [HP.out.2.2.1]; exact HL0.out _, fun k hk => by simp [bk] at hk⟩
        · rw [HQ.out (w1.heap.size + 1) 0]; exact hu
        · rw [HP.out.2.2.1]
          refine Row.kept (row_of_owns (by rw [← HMk.out]; exact hownm2)) K (fun k e f => ?_)
          have : k = w1.heap.size + 1 := by simp [bk] at e; omega
          omega
      have HK9 : Hid (∀ a0 a1 a2 a3 a4 a5 a6 a7 a8, Blk (((((((((wm2.setCell ⟨w1.heap.size, 0, none⟩ a0).setCell ⟨w1.heap.size, 1, none⟩ a1).setCell ⟨w1.heap.size, 2, none⟩ a2).setCell ⟨w1.heap.size, 3, none⟩ a3).setCell ⟨w1.heap.size, 4, none⟩ a4).setCell ⟨w1.heap.size, 5, none⟩ a5).setCell ⟨w1.heap.size, 6, none⟩ a6).setCell ⟨w1.heap.size, 7, none⟩ a7).setCell ⟨w1.heap.size, 8, none⟩ a8) w1.heap.size 150 [a0, a1, a2, a3, a4, a5, a6, a7, a8] ∧ Kept (fun k => k = w1.heap.size) wm2 (((((((((wm2.setCell ⟨w1.heap.size, 0, none⟩ a0).setCell ⟨w1.heap.size, 1, none⟩ a1).setCell ⟨w1.heap.size, 2, none⟩ a2).setCell ⟨w1.heap.size, 3, none⟩ a3).setCell ⟨w1.heap.size, 4, none⟩ a4).setCell ⟨w1.heap.size, 5, none⟩ a5).setCell ⟨w1.heap.size, 6, none⟩ a6).setCell ⟨w1.heap.size, 7, none⟩ a7).setCell ⟨w1.heap.size, 8, none⟩ a8)) := by
        intro a0 a1 a2 a3 a4 a5 a6 a7 a8
        refine ⟨((((((((HZ2.out.1.set 0 a0).set 1 a1).set 2 a2).set 3 a3).set 4 a4).set 5 a5).set 6 a6).set 7 a7).set 8 a8, ?_⟩
        exact ((((((((((Kept.refl (fun k => k = w1.heap.size) wm2).setCell (fun _ => rfl) a0).setCell (fun _ => rfl) a1).setCell (fun _ => rfl) a2).setCell (fun _ => rfl) a3).setCell (fun _ => rfl) a4).setCell (fun _ => rfl) a5).setCell (fun _ => rfl) a6).setCell (fun _ => rfl) a7).setCell (fun _ => rfl) a8)
      go_region
      · go_wp2_with fail
        go_meet
        case rel => exact ⟨wm.heap.size, _, rfl, HMA.out, rfl, rfl⟩
      · go_wp2_with fail
        go_meet
        case rel => exact ⟨w1.heap.size, _, rfl, HMB.out _ (HK9.out _ _ _ _ _ _ _ _ _).1 (HK9.out _ _ _ _ _ _ _ _ _).2, rfl, rfl⟩
    case rest =>
      obtain ⟨sb, Q0, rfl, hM0, hF0, hmo0⟩ := hcut
      have HM0 : Hid (MemS w1 wc sb P pa pc ga gc l Q0 ∧ Res [] Q0.F Q0.more) := ⟨hM0, by rw [hF0, hmo0]; exact ⟨rfl, rfl⟩⟩
      clear hM0 hF0 hmo0 HL0 HMk HQ hrun hrun2 hownm hownm2 hgm hgm2 hbm HZ2 q0 q1 q2 r0 r1 r2 t0 t1 t2 v0 v1 v2 c0 c1 c2 c3 c4 c5 c6 c7 c8 f0 f1 f2 f3 f4 f5 f6 f7 f8 hsz1 hpm hpm2 p0 p1 p2 hj0 hy0 hy1 hy2
      obtain ⟨SW, HSW⟩ := hex (fun z : Nat => (List.range z).flatMap (P.endL l))
      have HS0 : Hid (SW 0 = []) := by show _ = _; rw [HSW.out]; rfl
      have HSs : Hid (∀ z, SW (z + 1) = SW z ++ P.endL l z) := by intro z; rw [HSW.out]; show (List.range (z + 1)).flatMap _ = _; rw [List.range_succ, List.flatMap_append]; simp
      have HSe : Hid (FL = SW nl) := by show _ = _; rw [HFL.out, HSW.out]; unfold Pq.findL; rw [if_neg (by rw [hn]; exact hn0), HP.out.2.2.2.2]
      have HSm : Hid (∀ z, z ≤ nl → ∃ T, FL = SW z ++ T) := by
        intro z hz
        obtain ⟨d, rfl⟩ := Nat.exists_eq_add_of_le hz
        rw [HSe.out]
        have : ∀ d, ∃ T, SW (z + d) = SW z ++ T := by
          intro d
          induction d with
          | zero => exact ⟨[], by simp⟩
          | succ d ih => obtain ⟨T, hT⟩ := ih; exact ⟨T ++ P.endL l (z + d), by rw [← Nat.add_assoc, HSs.out, hT, List.append_assoc]⟩
        exact this d
      obtain ⟨k, hnk⟩ : ∃ k, n = k + 1 := ⟨n - 1, by omega⟩
      have hn1 : IntKind.i64.wrap ((n : Int) - 1) = (k : Int) := by rw [IntKind.wrap_i64]; omega
      have hkn : (k : Int) < (n : Int) := by omega
      have hk0 : (0 : Int) ≤ (k : Int) := by omega
      have HNK : Hid (n = k + 1) := hnk
      clear hnk
      go_wp2
      go_loopw [8] (fun iv wr => ∃ (z : Nat) (Q : Sq), iv = .int .i64 z ∧ z ≤ nl ∧ MemS w1 wr sb P pa pc ga gc l Q ∧ Res (SW z) Q.F Q.more) (fun iv _ => nl - (intOf iv).toNat)
      case atStart => exact ⟨0, Q0, rfl, Nat.zero_le _, HM0.out.1, by rw [HS0.out]; exact HM0.out.2⟩
      case round =>
        clear HM0 HS0
        obtain ⟨z, Q, rfl, hz, hM, hr⟩ := hrel
        have s7 := hM.cells.2.2.2.2.2.2.2.1
        have s8 := hM.cells.2.2.2.2.2.2.2.2
        have HM : Hid (MemS w1 wr sb P pa pc ga gc l Q) := hM
        have HR : Hid (Res (SW z) Q.F Q.more) := hr
        clear hM hr
        by_cases hzl : z < nl
        · have hzl' : (z : Int) < (nl : Int) := by omega
          have hz0 : (0 : Int) ≤ (z : Int) := by omega
          cases hmo : Q.more with
          | true =>
            rw [hmo] at s8
            have HRt : Hid (Q.F = FL.take 100 ∧ true = decide (100 < FL.length)) := by
              have h := HR.out
              rw [hmo] at h
              obtain ⟨T, hT⟩ := HSm.out z hz
              rw [hT]; exact h.stop T
            clear hmo
            go_wp2
            go_quiet (fail)
            go_wp2
            go_ret2
            refine ⟨Q.fa, Q.fc, Q.ms, ?_, ?_, ?_⟩
            · rw [← HRt.out.2]; rfl
            · have hls := (HM.out.drewN nq).lst
              rw [HP.out.2.2.1, HRt.out.1] at hls
              refine hls.mono ?_
              have := HB1.out.1.size
              exact this
            · have hb := HB1.out.1
              rw [HBp.out] at hb
              exact hb.trans ((HM.out.drewN nq).bel.mono hb.size)
          | false =>
            rw [hmo] at s8
            have hb0 := HB1.out.1
            rw [HBp.out] at hb0
            obtain ⟨g, hg, _, _, x3, _⟩ := (HSt.out.2.below HM.out.bel) z (by rw [← HP.out.2.2.2.2]; exact hzl)
            obtain ⟨g', hg', _, y0, _⟩ := (HSt.out.1.below HM.out.bel) k (by rw [hn]; omega)
            change wr.cell? ⟨g', k * 2, none⟩ = some (.int .i64 (P.kd k)) at y0
            obtain ⟨v, HV⟩ := hex (evAt l z).kind
            obtain ⟨u, HU⟩ := hex (P.kd k)
            rw [← HV.out] at x3
            rw [← HU.out] at y0
            have p0 := (HM.out.bel.cell (p := ⟨bp, 0, none⟩) hbp).trans (HB1.out.2.cell 0)
            simp only [List.getElem?_cons_zero] at p0
            have hea : ∀ m, Calls Tryz.prog 95 #[.pointer (some ⟨sb, 0, none⟩), .int .i64 z] (wr.drewN m) fun e w' => e = .returned (.tuple #[]) ∧ ∃ Q', MemS w1 w' sb P pa pc ga gc l Q' ∧ Res (SW z ++ P.layL l z (near (P.bar l z k) (z - 1)) k [] 0) Q'.F Q'.more := fun m => endAt_any sb P pa pc ga gc l w1 k (by rw [hn]; exact HNK.out) (by omega) HP.out.2.2.2.1 HTs.out z Q _ (SW z) (HM.out.drewN m) (by rw [← HP.out.2.2.2.2]; exact hzl) HR.out
            have HSz : Hid (SW (z + 1) = if v = u then SW z ++ P.layL l z (near (P.bar l z k) (z - 1)) k [] 0 else SW z) := by
              show _ = _
              rw [HSs.out]
              unfold Pq.endL
              rw [hn, show n - 1 = k by have := HNK.out; omega, ← HV.out, ← HU.out]
              by_cases e : v = u
              · rw [if_pos e, if_pos e]
              · rw [if_neg e, if_neg e, List.append_nil]
            subst hg
            subst hg'
            clear hmo hb0
            by_cases hvu : v = u
            · have hb : (v == u) = true := by simp [hvu]
              have HZ1 : Hid (SW (z + 1) = SW z ++ P.layL l z (near (P.bar l z k) (z - 1)) k [] 0) := by show _ = _; rw [HSz.out, if_pos hvu]
              subst hvu
              go_wp2
              go_quiet (fail)
              go_wp2_with (go_at_call 95; refine (hea _).mono ?_; rintro e w' ⟨rfl, Q3, hq3, hr3⟩)
              go_roundw
              case rel => first | exact ⟨z + 1, Q3, by go_num, by omega, hq3, by rw [HZ1.out]; exact hr3⟩ | ((repeat apply Exists.intro); exact ⟨⟨z + 1, Q3, by go_num, by omega, hq3, by rw [HZ1.out]; exact hr3⟩, rfl⟩)
              case measure => simp [intOf]; omega
            · have hb : (v == u) = false := by simp [hvu]
              have HZ1 : Hid (SW (z + 1) = SW z) := by show _ = _; rw [HSz.out, if_neg hvu]
              go_wp2
              go_quiet (fail)
              go_wp2
              go_roundw
              case rel => first | exact ⟨z + 1, Q, by go_num, by omega, HM.out.drewN _, by rw [HZ1.out]; exact HR.out⟩ | ((repeat apply Exists.intro); exact ⟨⟨z + 1, Q, by go_num, by omega, HM.out.drewN _, by rw [HZ1.out]; exact HR.out⟩, rfl⟩)
              case measure => simp [intOf]; omega
        · have hzl' : ¬ (z : Int) < (nl : Int) := by omega
          have hdz : decide ((z : Int) < (nl : Int)) = false := by simpa using hzl
          have HRt : Hid (Q.F = FL.take 100 ∧ Q.more = decide (100 < FL.length)) := by
            have h := HR.out
            rw [show z = nl by omega, ← HSe.out] at h
            exact h
          go_wp2
          go_quiet (fail)
          go_wp2
          go_ret2
          refine ⟨Q.fa, Q.fc, Q.ms, ?_, ?_, ?_⟩
          · rw [← HRt.out.2]; rfl
          · have hls := (HM.out.drewN nq).lst
            rw [HP.out.2.2.1, HRt.out.1] at hls
            refine hls.mono ?_
            have := HB1.out.1.size
            exact this
          · have hb := HB1.out.1
            rw [HBp.out] at hb
            exact hb.trans ((HM.out.drewN nq).bel.mono hb.size)
end Go.Proofs.YtghcololkgeoeabGreat
namespace Go.Proofs.YtghcololkgeoeabGreat
open Go.RowKit
set_option linter.unusedVariables false
set_option linter.unusedSimpArgs false
attribute [local go_sem ↓] Go.wp_at_zero Go.wp_at_succ

def TsOk (l : List Ev) : Prop := ∀ e ∈ l, -4398046511104 ≤ e.ts ∧ e.ts ≤ 4398046511104
theorem TsOk.at {l : List Ev} (h : TsOk l) : ∀ i, i < l.length → -4398046511104 ≤ (evAt l i).ts ∧ (evAt l i).ts ≤ 4398046511104 := by
  intro i hi
  unfold evAt
  rw [List.getElem?_eq_getElem hi]
  exact h _ (List.getElem_mem hi)
set_option maxRecDepth 100000 in
set_option maxHeartbeats 2000000 in
theorem xmatches_any (b : Nat) (X : Eng) (w : World) (h : MemX w b X) (h3 : X.c.ps.length ≤ 3) (hl : X.log.length ≤ 1000) (hts : TsOk X.log) :
    Calls Tryz.prog 48 #[.pointer (some ⟨b, 0, none⟩)] w fun e w' => ∃ a c ms, e = .returned (.tuple #[.slice a (List.length ms) c, .bool (decide (100 < (X.c.pq.findL X.log).length))]) ∧ LsAt w' w.heap.size a c ms X.c.ps.length ((X.c.pq.findL X.log).take 100) ∧ Below w.heap.size w w' := by
  have hfi : Calls Tryz.prog 79 #[.agg #[.slice X.pa X.c.ps.length X.pc, .bool X.c.same, .int .i64 X.c.win], .slice X.ga X.log.length X.gc] w.drew fun e w' => ∃ a c ms, e = .returned (.tuple #[.slice a (List.length ms) c, .bool (decide (100 < (X.c.pq.findL X.log).length))]) ∧ LsAt w' w.heap.size a c ms X.c.ps.length ((X.c.pq.findL X.log).take 100) ∧ Below w.heap.size w w' := by
    refine (find_any X.c.pq X.pa X.pc X.ga X.gc X.log w.drew X.c.ps.length rfl (StAt.of_row (h.drew).pt) (EvC.of_row (h.drew).lg) h3 hl hts.at).mono ?_
    rintro e w' ⟨a, c, ms, he, hls, hb⟩
    exact ⟨a, c, ms, he, hls, ⟨hb.os, hb.tape, hb.output, hb.size, hb.block⟩⟩
  obtain ⟨np, HNp⟩ := hex X.c.ps.length
  obtain ⟨FL, HFL⟩ := hex (X.c.pq.findL X.log)
  have c6 : w.cell? ⟨b, 6, none⟩ = some (.slice X.pa np X.pc) := by rw [HNp.out]; exact h.eng.cell 6
  have c7 : w.cell? ⟨b, 7, none⟩ = some (.bool X.c.same) := h.eng.cell 7
  have c8 : w.cell? ⟨b, 8, none⟩ = some (.int .i64 X.c.win) := h.eng.cell 8
  have c12 : w.cell? ⟨b, 12, none⟩ = some (.slice X.ga X.log.length X.gc) := h.eng.cell 12
  have hbl : b < w.heap.size := h.eng.lt
  rw [← HNp.out, ← HFL.out] at hfi ⊢
  clear h h3 hl hts HNp HFL
  go_enter Tryz.func48, Tryz.ntmps48
  go_upto_region 1 with fail
  refine upTo_region (fun u : World => u.cell? ⟨b, 6, none⟩ = some (.slice X.pa np X.pc) ∧ u.cell? ⟨b, 7, none⟩ = some (.bool X.c.same) ∧ u.cell? ⟨b, 8, none⟩ = some (.int .i64 X.c.win) ∧ u.cell? ⟨b, 12, none⟩ = some (.slice X.ga X.log.length X.gc)) 13 13 rfl (by kernel_rfl) ?_
  have hS0 : (fun u : World => u.cell? ⟨b, 6, none⟩ = some (.slice X.pa np X.pc) ∧ u.cell? ⟨b, 7, none⟩ = some (.bool X.c.same) ∧ u.cell? ⟨b, 8, none⟩ = some (.int .i64 X.c.win) ∧ u.cell? ⟨b, 12, none⟩ = some (.slice X.ga X.log.length X.gc)) w.drew := ⟨c6, c7, c8, c12⟩
  refine upTo_tk2 (i := 0) (v := ?v26_0) rfl (by kernel_rfl) rfl (fun _ _ _ h => h) (by rfl) hS0 ?h26_0 ?r26_0
  case h26_0 => (intro u hu; (try dsimp only at hu); go_simp; first | done | with_reducible rfl)
  (try simp only [Act.put, tkS])
  refine upTo_tk2 (i := 1) (v := ?v26_1) rfl (by kernel_rfl) rfl (fun _ _ _ h => h) (by rfl) hS0 ?h26_1 ?r26_1
  case h26_1 => (intro u hu; (try dsimp only at hu); go_simp; first | done | with_reducible rfl)
  (try simp only [Act.put, tkS])
  refine upTo_tk2 (i := 2) (v := ?v26_2) rfl (by kernel_rfl) rfl (fun _ _ _ h => h) (by rfl) hS0 ?h26_2 ?r26_2
  case h26_2 => (intro u hu; (try dsimp only at hu); go_simp; first | done | with_reducible rfl)
  (try simp only [Act.put, tkS])
  refine upTo_tk2 (i := 3) (v := ?v26_3) rfl (by kernel_rfl) rfl (fun _ _ _ h => h) (by rfl) hS0 ?h26_3 ?r26_3
  case h26_3 => (intro u hu; (try dsimp only at hu); go_simp; first | done | with_reducible rfl)
  (try simp only [Act.put, tkS])
  refine upTo_tk2 (i := 4) (v := ?v26_4) rfl (by kernel_rfl) rfl (fun _ _ _ h => h) (by rfl) hS0 ?h26_4 ?r26_4
  case h26_4 => (intro u hu; (try dsimp only at hu); go_simp; first | done | with_reducible rfl)
  (try simp only [Act.put, tkS])
  refine upTo_tk2 (i := 5) (v := ?v26_5) rfl (by kernel_rfl) rfl (fun _ _ _ h => h) (by rfl) hS0 ?h26_5 ?r26_5
  case h26_5 => (intro u hu; (try dsimp only at hu); go_simp; first | done | with_reducible rfl)
  (try simp only [Act.put, tkS])
  refine upTo_tk2 (i := 6) (v := ?v26_6) rfl (by kernel_rfl) rfl (fun _ _ _ h => h) (by rfl) hS0 ?h26_6 ?r26_6
  case h26_6 => (intro u hu; (try dsimp only at hu); go_simp; first | done | with_reducible rfl)
  (try simp only [Act.put, tkS])
  refine upTo_tk2 (i := 7) (v := ?v26_7) rfl (by kernel_rfl) rfl (fun _ _ _ h => h) (by rfl) hS0 ?h26_7 ?r26_7
  case h26_7 => (intro u hu; (try dsimp only at hu); go_simp; first | done | with_reducible rfl)
  (try simp only [Act.put, tkS])
  refine upTo_one (i := 8) (by kernel_rfl) rfl (fun K hK => ?_)
  go_simp
  refine hfi.mono ?_
  rintro e w1 ⟨a, c, ms, rfl, hls, hb⟩
  have hS1 : (fun u : World => u.cell? ⟨b, 6, none⟩ = some (.slice X.pa np X.pc) ∧ u.cell? ⟨b, 7, none⟩ = some (.bool X.c.same) ∧ u.cell? ⟨b, 8, none⟩ = some (.int .i64 X.c.win) ∧ u.cell? ⟨b, 12, none⟩ = some (.slice X.ga X.log.length X.gc)) w1 := ⟨(hb.cell (p := ⟨b, 6, none⟩) hbl).trans c6, (hb.cell (p := ⟨b, 7, none⟩) hbl).trans c7, (hb.cell (p := ⟨b, 8, none⟩) hbl).trans c8, (hb.cell (p := ⟨b, 12, none⟩) hbl).trans c12⟩
  refine hK.out _ _ (fun _ => hS1) ?_
  clear hK K hS0
  have hS0 := hS1
  (try simp only [Act.put, tkS])
  refine upTo_tk2 (i := 9) (v := ?v27_9) rfl (by kernel_rfl) rfl (fun _ _ _ h => h) (by rfl) hS0 ?h27_9 ?r27_9
  case h27_9 => (intro u hu; (try dsimp only at hu); go_simp; first | done | with_reducible rfl)
  (try simp only [Act.put, tkS])
  refine upTo_tk2 (i := 10) (v := ?v27_10) rfl (by kernel_rfl) rfl (fun _ _ _ h => h) (by rfl) hS0 ?h27_10 ?r27_10
  case h27_10 => (intro u hu; (try dsimp only at hu); go_simp; first | done | with_reducible rfl)
  (try simp only [Act.put, tkS])
  refine upTo_tk2 (i := 11) (v := ?v27_11) rfl (by kernel_rfl) rfl (fun _ _ _ h => h) (by rfl) hS0 ?h27_11 ?r27_11
  case h27_11 => (intro u hu; (try dsimp only at hu); go_simp; first | done | with_reducible rfl)
  (try simp only [Act.put, tkS])
  refine upTo_tk2 (i := 12) (v := ?v27_12) rfl (by kernel_rfl) rfl (fun _ _ _ h => h) (by rfl) hS0 ?h27_12 ?r27_12
  case h27_12 => (intro u hu; (try dsimp only at hu); go_simp; first | done | with_reducible rfl)
  (try simp only [Act.put, tkS])
  refine upTo_done (by kernel_rfl) ?_
  go_wp2
  go_ret2
  exact ⟨a, c, ms, rfl, hls, hb⟩

theorem LsAt.below {w w' : World} {H : Nat} {a : Option Addr} {c : Nat} {ms : List (Nat × Nat)} {n : Nat} {F : List (List Nat)} (h : LsAt w H a c ms n F) (hb : Below w.heap.size w w') : LsAt w' H a c ms n F := h.kept (below_kept hb (fun _ => False)) (fun _ _ e => e)
end Go.Proofs.YtghcololkgeoeabGreat
