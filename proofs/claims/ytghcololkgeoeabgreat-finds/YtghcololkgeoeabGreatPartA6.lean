import Derived.Test.YtghcololkgeoeabGreatPartA5
namespace Go.Proofs.YtghcololkgeoeabGreat
open Go.RowKit
set_option linter.unusedVariables false
set_option linter.unusedSimpArgs false
attribute [local go_sem ↓] Go.wp_at_zero Go.wp_at_succ

theorem hex {α : Type} (a : α) : ∃ x, Hid (x = a) := ⟨a, rfl⟩
theorem rsettleE (b : Nat) (R : Ref) (w : World) (h : MemR w b R) (hall : R.all.length ≤ 1000) (hn : R.srcs.length ≤ 6) (hts : ∀ e ∈ R.all, -4398046511104 ≤ e.ts ∧ e.ts ≤ 4398046511104) :
    Calls Tryz.prog 54 #[.pointer (some ⟨b, 0, none⟩)] w fun e w' => e = .returned (.tuple #[]) ∧ Evo w b R w' R.settled :=
  (rsettle_any b R w h hall hn hts).mono fun e w' ⟨he, hm, hk⟩ => ⟨he, hm, hk.mono (fun k _ e => by subst e; simp [Ref.fp]), fun k hk => Or.inl (by rwa [settled_fp] at hk)⟩

structure Sane (N : Nat) (R : Ref) : Prop where
  all : R.all.length ≤ 200
  aside : R.aside.length ≤ 200
  n : R.srcs.length ≤ 6
  ts : ∀ e ∈ R.all, -1099511627776 ≤ e.ts ∧ e.ts ≤ 1099511627776 + 200
  marks : ∀ (i : Nat) r, R.srcs[i]? = some r → r.marks.length ≤ N ∧ r.seqs.length ≤ N
  sil : ∀ (i : Nat) r, R.srcs[i]? = some r → 0 ≤ r.sil ∧ r.sil ≤ 1000 * (N : Int)
theorem Sane.ts' {N : Nat} {R : Ref} (h : Sane N R) : ∀ e ∈ R.all, -4398046511104 ≤ e.ts ∧ e.ts ≤ 4398046511104 := fun e he => by have := h.ts e he; omega

def JoinOk (R : Ref) (i : Nat) (r' : RSrc) (R' : Ref) : Prop := ∃ hi : i < R.srcs.length, r' = { R.srcs[i] with inn := true, sil := 0, marks := R.srcs[i].marks ++ [R.merged], ma := r'.ma, mc := r'.mc } ∧ R' = ({ R with srcs := R.srcs.set i r' } : Ref).settled

set_option maxHeartbeats 400000 in
theorem rjoin_none (b : Nat) (R : Ref) (s : Int) (w : World) (hM : MemR w b R) (hs : s < 0 ∨ (R.srcs.length : Int) ≤ s) :
    Calls Tryz.prog 23 #[.pointer (some ⟨b, 0, none⟩), .int .i64 s] w fun e w' => e = .returned (.int .i64 3) ∧ w = w' := by
  have hd : decide (s < 0 ∨ (R.srcs.length : Int) ≤ s) = true := by simpa using hs
  have HD : Hid (decide (s < 0 ∨ (R.srcs.length : Int) ≤ s) = true) := hd
  clear hd hs
  go_enter Tryz.func23, Tryz.ntmps23
  go_wp2_with (go_at_call 41; refine (rnone_any b R s _ hM).mono ?_; rintro e w' ⟨rfl, rfl⟩; rw [HD.out])
  go_ret
  exact ⟨rfl, rfl⟩

set_option maxHeartbeats 400000 in
theorem rjoin_in (b : Nat) (R : Ref) (i : Nat) (w : World) (hM : MemR w b R) (hi : i < R.srcs.length) (hin : R.srcs[i].inn = true) :
    Calls Tryz.prog 23 #[.pointer (some ⟨b, 0, none⟩), .int .i64 i] w fun e w' => e = .returned (.int .i64 4) ∧ w = w' := by
  have HD : Hid (decide ((i : Int) < 0 ∨ (R.srcs.length : Int) ≤ i) = false) := by show _ = _; simp; omega
  have c9 := hM.cells.2.1
  have s0 := hM.srcCell i 0 hi (by omega)
  simp only [RSrc.vals, List.getElem?_cons_zero, Nat.add_zero, hin] at s0
  have hi' : (i : Int) < (R.srcs.length : Int) := by omega
  have hi00 : (0 : Int) ≤ (i : Int) := by omega
  go_enter Tryz.func23, Tryz.ntmps23
  go_wp2_with (go_at_call 41; refine (rnone_any b R _ _ hM).mono ?_; rintro e w' ⟨rfl, rfl⟩; rw [HD.out])
  go_ret
  exact ⟨rfl, rfl⟩

set_option maxRecDepth 100000 in
set_option maxHeartbeats 4000000 in
theorem rjoin_ok (N b : Nat) (R : Ref) (i : Nat) (w : World) (hM : MemR w b R) (hsane : Sane N R) (hN : N ≤ 9000000000000) (hi : i < R.srcs.length) (hin : R.srcs[i].inn = false) :
    Calls Tryz.prog 23 #[.pointer (some ⟨b, 0, none⟩), .int .i64 i] w fun e w' => e = .returned (.int .i64 0) ∧ ∃ r' R', JoinOk R i r' R' ∧ Evo w b R w' R' := by
  obtain ⟨i0, hi0, hz0, hz1, hz2⟩ := info_parts Tryz.infoInt
  have HD : Hid (decide ((i : Int) < 0 ∨ (R.srcs.length : Int) ≤ i) = false) := by show _ = _; simp; omega
  have hml := (hsane.marks i _ (List.getElem?_eq_getElem hi)).1
  have c9 := hM.cells.2.1
  have s0 := hM.srcCell i 0 hi (by omega)
  have s1 := hM.srcCell i 1 hi (by omega)
  simp only [RSrc.vals, List.getElem?_cons_zero, List.getElem?_cons_succ, Nat.add_zero, hin] at s0 s1
  have f0 := hM.srcFrozen (i * 5) (by omega)
  have f1 := hM.srcFrozen (i * 5 + 1) (by omega)
  have hi' : (i : Int) < (R.srcs.length : Int) := by omega
  have hi00 : (0 : Int) ≤ (i : Int) := by omega
  have HM0 : Hid (MemR w b R) := hM
  have HSn : Hid (Sane N R) := hsane
  have hbs : b ≠ R.sg := fun e => by have := hM.dis 0 2 b rfl (by rw [e]; rfl); omega
  clear hsane
  go_enter Tryz.func23, Tryz.ntmps23
  go_upto_region 8 with (go_at_call 41; refine (rnone_any b R _ _ HM0.out).mono ?_; rintro e w' ⟨rfl, rfl⟩; rw [HD.out])
  -- BEHIND the two stores
  obtain ⟨R1, HR1⟩ := hex ({ R with srcs := R.srcs.set i { R.srcs[i] with inn := true, sil := 0 } } : Ref)
  have HE1 : Hid (Evo w b R ((w.setCell ⟨R.sg, i * 5, none⟩ (.bool true)).setCell ⟨R.sg, i * 5 + 1, none⟩ (.int .i64 0)) R1) := by
    show Evo _ _ _ _ _
    rw [HR1.out]
    have e1 := HM0.out.setSrcE { R.srcs[i] with inn := true } hi 0 (by omega) (.bool true) rfl ⟨rfl, rfl, rfl⟩ ⟨rfl, rfl, rfl⟩
    have e2 := e1.mem.setSrcE (i := i) { R.srcs[i] with inn := true, sil := 0 } (by simp; exact hi) 1 (by omega) (.int .i64 0) (by simp [RSrc.vals]) (by simp) (by simp)
    simp only [List.set_set] at e2
    exact e1.trans e2
  clear c9 s0 s1 f0 f1
  generalize (w.setCell ⟨R.sg, i * 5, none⟩ (.bool true)).setCell ⟨R.sg, i * 5 + 1, none⟩ (.int .i64 0) = wq at *
  have HH : Hid (MemR wq b R1) := HE1.out.mem
  have HX : Hid (i < R.srcs.length) := hi
  have hl1 : R1.srcs.length = R.srcs.length := by have := HR1.out; subst this; simp
  have hi : i < R1.srcs.length := by rw [hl1]; exact HX.out
  have hi' : (i : Int) < (R1.srcs.length : Int) := by omega
  have hml1 : R1.srcs[i].marks.length ≤ N := by have := HR1.out; subst this; simpa using hml
  have c12 := HH.out.cells.2.2.2.2
  clear hl1
  have c9 := HH.out.cells.2.1
  have s2 := HH.out.srcCell i 2 hi (by omega)
  simp only [RSrc.vals, List.getElem?_cons_succ, List.getElem?_cons_zero] at s2
  have HM : Hid (Row wq 3 1 R1.srcs[i].ma R1.srcs[i].marks.length R1.srcs[i].mc (ints R1.srcs[i].marks)) := HH.out.mrk i _ (List.getElem?_eq_getElem hi)
  refine upTo_region (fun u => u.cell? ⟨b, 9, none⟩ = some (.slice (some ⟨R1.sg, 0, none⟩) R1.srcs.length R1.sc) ∧ u.cell? ⟨b, 12, none⟩ = some (.int .i64 R1.merged) ∧ u.cell? ⟨R1.sg, i * 5 + 2, none⟩ = some (.slice R1.srcs[i].ma R1.srcs[i].marks.length R1.srcs[i].mc)) 21 22 rfl (by kernel_rfl) ?_
  have hS0 : (fun u : World => u.cell? ⟨b, 9, none⟩ = some (.slice (some ⟨R1.sg, 0, none⟩) R1.srcs.length R1.sc) ∧ u.cell? ⟨b, 12, none⟩ = some (.int .i64 R1.merged) ∧ u.cell? ⟨R1.sg, i * 5 + 2, none⟩ = some (.slice R1.srcs[i].ma R1.srcs[i].marks.length R1.srcs[i].mc)) wq.drew := ⟨c9, c12, s2⟩
  refine upTo_tk (i := 0) (v := ?v3_0) rfl (by kernel_rfl) (fun _ _ _ h => h) (by rfl) hS0 ?h3_0 ?r3_0
  case h3_0 => (intro u hu; (try dsimp only at hu); go_simp; first | done | with_reducible rfl)
  (try simp only [Act.put, tkS])
  refine upTo_tk (i := 1) (v := ?v3_1) rfl (by kernel_rfl) (fun _ _ _ h => h) (by rfl) hS0 ?h3_1 ?r3_1
  case h3_1 => (intro u hu; (try dsimp only at hu); go_simp; first | done | with_reducible rfl)
  (try simp only [Act.put, tkS])
  refine upTo_tk (i := 2) (v := ?v3_2) rfl (by kernel_rfl) (fun _ _ _ h => h) (by rfl) hS0 ?h3_2 ?r3_2
  case h3_2 => (intro u hu; (try dsimp only at hu); go_simp; first | done | with_reducible rfl)
  (try simp only [Act.put, tkS])
  refine upTo_tk (i := 3) (v := ?v3_3) rfl (by kernel_rfl) (fun _ _ _ h => h) (by rfl) hS0 ?h3_3 ?r3_3
  case h3_3 => (intro u hu; (try dsimp only at hu); go_simp; first | done | with_reducible rfl)
  (try simp only [Act.put, tkS])
  refine upTo_tk (i := 4) (v := ?v3_4) rfl (by kernel_rfl) (fun _ _ _ h => h) (by rfl) hS0 ?h3_4 ?r3_4
  case h3_4 => (intro u hu; (try dsimp only at hu); go_simp; first | done | with_reducible rfl)
  (try simp only [Act.put, tkS])
  refine upTo_tk (i := 5) (v := ?v3_5) rfl (by kernel_rfl) (fun _ _ _ h => h) (by rfl) hS0 ?h3_5 ?r3_5
  case h3_5 => (intro u hu; (try dsimp only at hu); go_simp; first | done | with_reducible rfl)
  (try simp only [Act.put, tkS])
  refine upTo_tk (i := 6) (v := ?v3_6) rfl (by kernel_rfl) (fun _ _ _ h => h) (by rfl) hS0 ?h3_6 ?r3_6
  case h3_6 => (intro u hu; (try dsimp only at hu); go_simp; first | done | with_reducible rfl)
  (try simp only [Act.put, tkS])
  refine upTo_tk (i := 7) (v := ?v3_7) rfl (by kernel_rfl) (fun _ _ _ h => h) (by rfl) hS0 ?h3_7 ?r3_7
  case h3_7 => (intro u hu; (try dsimp only at hu); go_simp; first | done | with_reducible rfl)
  (try simp only [Act.put, tkS])
  refine upTo_tk (i := 8) (v := ?v3_8) rfl (by kernel_rfl) (fun _ _ _ h => h) (by rfl) hS0 ?h3_8 ?r3_8
  case h3_8 => (intro u hu; (try dsimp only at hu); go_simp; first | done | with_reducible rfl)
  (try simp only [Act.put, tkS])
  refine upTo_tk (i := 9) (v := ?v3_9) rfl (by kernel_rfl) (fun _ _ _ h => h) (by rfl) hS0 ?h3_9 ?r3_9
  case h3_9 => (intro u hu; (try dsimp only at hu); go_simp; first | done | with_reducible rfl)
  (try simp only [Act.put, tkS])
  refine upTo_tk (i := 10) (v := ?v3_10) rfl (by kernel_rfl) (fun _ _ _ h => h) (by rfl) hS0 ?h3_10 ?r3_10
  case h3_10 => (intro u hu; (try dsimp only at hu); go_simp; first | done | with_reducible rfl)
  (try simp only [Act.put, tkS])
  refine upTo_tk (i := 11) (v := ?v3_11) rfl (by kernel_rfl) (fun _ _ _ h => h) (by rfl) hS0 ?h3_11 ?r3_11
  case h3_11 => (intro u hu; (try dsimp only at hu); go_simp; first | done | with_reducible rfl)
  (try simp only [Act.put, tkS])
  refine upTo_tk (i := 12) (v := ?v3_12) rfl (by kernel_rfl) (fun _ _ _ h => h) (by rfl) hS0 ?h3_12 ?r3_12
  case h3_12 => (intro u hu; (try dsimp only at hu); go_simp; first | done | with_reducible rfl)
  (try simp only [Act.put, tkS])
  refine upTo_tk (i := 13) (v := ?v3_13) rfl (by kernel_rfl) (fun _ _ _ h => h) (by rfl) hS0 ?h3_13 ?r3_13
  case h3_13 => (intro u hu; (try dsimp only at hu); go_simp; first | done | with_reducible rfl)
  (try simp only [Act.put, tkS])
  refine upTo_tk (i := 14) (v := ?v3_14) rfl (by kernel_rfl) (fun _ _ _ h => h) (by rfl) hS0 ?h3_14 ?r3_14
  case h3_14 => (intro u hu; (try dsimp only at hu); go_simp; first | done | with_reducible rfl)
  (try simp only [Act.put, tkS])
  refine upTo_tk (i := 15) (v := ?v3_15) rfl (by kernel_rfl) (fun _ _ _ h => h) (by rfl) hS0 ?h3_15 ?r3_15
  case h3_15 => (intro u hu; (try dsimp only at hu); go_simp; first | done | with_reducible rfl)
  (try simp only [Act.put, tkS])
  refine upTo_tk (i := 16) (v := ?v3_16) rfl (by kernel_rfl) (fun _ _ _ h => h) (by rfl) hS0 ?h3_16 ?r3_16
  case h3_16 => (intro u hu; (try dsimp only at hu); go_simp; first | done | with_reducible rfl)
  (try simp only [Act.put, tkS])
  refine upTo_one (i := 17) (by kernel_rfl) rfl (fun K hK => ?_)
  go_simp
  refine hK.out _ _ (fun _ => ⟨(HH.out.alloc _).cells.2.1, (HH.out.alloc _).cells.2.2.2.2, by have := (HH.out.alloc (.cells #[.int .i64 R1.merged] 3)).srcCell i 2 hi (by omega); simpa [RSrc.vals] using this⟩) ?_
  clear hK K
  (try simp only [Act.put, tkS])
  refine upTo_one (i := 18) (by kernel_rfl) rfl (fun K hK => ?_)
  refine step_append_lies _ (by rfl) _ _ _ (by rfl) 0 3 i0 _ 1 8 Tryz.underlying36 hi0 hz0 hz1 hz2 rfl (by omega) (.slice R1.srcs[i].ma R1.srcs[i].marks.length R1.srcs[i].mc) R1.srcs[i].marks.length (ints R1.srcs[i].marks) (by rfl) (ownsRow_of_heap HM.out (fun k hk => Below.heap_alloc _ _ _ hk)) ⟨wq.heap.size, 0, none⟩ 1 1 [.int .i64 R1.merged] (by rfl) (by rfl) (World.news_of_block (cs := #[.int .i64 R1.merged]) (t := 3) (fr := (0, 0)) (heap_alloc_new wq _)) (by simp [Value.oneCell']) (by omega) (by unfold maxLen; omega) (by omega) (by omega) (wq.heap.size + 1) (by simp) ?_
  intro gg cap w1 hown1 hgrow hat hlt1
  have hb0 : Below wq.heap.size wq (wq.alloc (.cells #[.int .i64 R1.merged] 3)).drew := ((Below.refl _ wq).alloc (Nat.le_refl _) _).drew
  obtain ⟨q0, q3, q4, qk⟩ := tS HH.out hb0 hi hown1 hgrow hat
  refine hK.out _ _ (fun _ => ⟨q0.cell 9, q0.cell 12, q3⟩) ?_
  clear hK K hS0
  (try simp only [Act.put, tkS])
  refine upTo_one (i := 19) (by kernel_rfl) rfl (fun K hK => ?_)
  go_simp
  refine hK.out _ _ (fun _ => ⟨q0.cell 9, q0.cell 12, q3⟩) ?_
  clear hK K
  (try simp only [Act.put, tkS])
  refine upTo_one (i := 20) (by kernel_rfl) rfl (fun K hK => ?_)
  go_simp
  refine hK.out _ _ (fun _ => ⟨q0.cell 9, q0.cell 12, q3⟩) ?_
  clear hK K
  (try simp only [Act.put, tkS])
  refine upTo_one (i := 21) (by kernel_rfl) rfl (fun K hK => ?_)
  go_simp
  refine hK.out _ _ (fun h => absurd rfl h) ?_
  clear hK K
  (try simp only [Act.put, tkS])
  refine upTo_done (by kernel_rfl) ?_
  obtain ⟨RZ, HRZ⟩ := hex ({ R1 with srcs := R1.srcs.set i { R1.srcs[i] with marks := R1.srcs[i].marks ++ [R1.merged], ma := some ⟨gg, 0, none⟩, mc := cap } } : Ref)
  have HE2 : Hid (Evo wq b R1 (w1.setCell ⟨R1.sg, i * 5 + 2, none⟩ (.slice (some ⟨gg, 0, none⟩) (R1.srcs[i].marks.length + 1) cap)) RZ) := by show Evo _ _ _ _ _; rw [HRZ.out]; exact HH.out.appMarkE hb0 hi hown1 hgrow hat
  clear q0 q3 q4 qk c9 s2 hown1 hgrow hat hlt1 hb0 HM
  generalize w1.setCell ⟨R1.sg, i * 5 + 2, none⟩ (.slice (some ⟨gg, 0, none⟩) (R1.srcs[i].marks.length + 1) cap) = wz at *
  have HZ : Hid (∃ r' : RSrc, JoinOk R i r' RZ.settled) := by
    show ∃ r' : RSrc, _
    have e2 := HRZ.out
    have e1 := HR1.out
    subst e1
    subst e2
    exact ⟨{ R.srcs[i]'HX.out with inn := true, sil := 0, marks := (R.srcs[i]'HX.out).marks ++ [R.merged], ma := some ⟨gg, 0, none⟩, mc := cap }, HX.out, rfl, by simp [List.set_set]⟩
  have HQ1 : Hid (RZ.all = R.all ∧ RZ.srcs.length = R.srcs.length) := by
    show _ ∧ _
    have e2 := HRZ.out
    have e1 := HR1.out
    subst e1
    subst e2
    simp
  go_wp2_with (go_at_call 54; refine (rsettleE b RZ _ HE2.out.mem (by rw [HQ1.out.1]; have := HSn.out.all; omega) (by rw [HQ1.out.2]; exact HSn.out.n) (by rw [HQ1.out.1]; exact HSn.out.ts')).mono ?_; rintro e w9 ⟨rfl, hev⟩)
  go_ret
  obtain ⟨r', hr'⟩ := HZ.out
  exact ⟨rfl, r', RZ.settled, hr', (HE1.out.trans HE2.out).trans hev⟩
end Go.Proofs.YtghcololkgeoeabGreat
namespace Go.Proofs.YtghcololkgeoeabGreat
open Go.RowKit
set_option linter.unusedVariables false
set_option linter.unusedSimpArgs false
attribute [local go_sem ↓] Go.wp_at_zero Go.wp_at_succ

set_option maxHeartbeats 400000 in
theorem rleave_none (b : Nat) (R : Ref) (s : Int) (w : World) (hM : MemR w b R) (hs : s < 0 ∨ (R.srcs.length : Int) ≤ s) :
    Calls Tryz.prog 25 #[.pointer (some ⟨b, 0, none⟩), .int .i64 s] w fun e w' => e = .returned (.int .i64 3) ∧ w = w' := by
  have HD : Hid (decide (s < 0 ∨ (R.srcs.length : Int) ≤ s) = true) := by show _ = _; simpa using hs
  clear hs
  go_enter Tryz.func25, Tryz.ntmps25
  go_wp2_with (go_at_call 41; refine (rnone_any b R s _ hM).mono ?_; rintro e w' ⟨rfl, rfl⟩; rw [HD.out])
  go_ret
  exact ⟨rfl, rfl⟩

set_option maxHeartbeats 400000 in
theorem rleave_out (b : Nat) (R : Ref) (i : Nat) (w : World) (hM : MemR w b R) (hi : i < R.srcs.length) (hin : R.srcs[i].inn = false) :
    Calls Tryz.prog 25 #[.pointer (some ⟨b, 0, none⟩), .int .i64 i] w fun e w' => e = .returned (.int .i64 4) ∧ w = w' := by
  have HD : Hid (decide ((i : Int) < 0 ∨ (R.srcs.length : Int) ≤ i) = false) := by show _ = _; simp; omega
  have c9 := hM.cells.2.1
  have s0 := hM.srcCell i 0 hi (by omega)
  simp only [RSrc.vals, List.getElem?_cons_zero, Nat.add_zero, hin] at s0
  have hi' : (i : Int) < (R.srcs.length : Int) := by omega
  have hi00 : (0 : Int) ≤ (i : Int) := by omega
  go_enter Tryz.func25, Tryz.ntmps25
  go_wp2_with (go_at_call 41; refine (rnone_any b R _ _ hM).mono ?_; rintro e w' ⟨rfl, rfl⟩; rw [HD.out])
  go_ret
  exact ⟨rfl, rfl⟩

set_option maxHeartbeats 400000 in
theorem rpunct_none (b : Nat) (R : Ref) (s : Int) (ts : Int) (w : World) (hM : MemR w b R) (hs : s < 0 ∨ (R.srcs.length : Int) ≤ s) :
    Calls Tryz.prog 29 #[.pointer (some ⟨b, 0, none⟩), .int .i64 s, .int .i64 ts] w fun e w' => e = .returned (.int .i64 3) ∧ w = w' := by
  have HD : Hid (decide (s < 0 ∨ (R.srcs.length : Int) ≤ s) = true) := by show _ = _; simpa using hs
  clear hs
  go_enter Tryz.func29, Tryz.ntmps29
  go_wp2_with (go_at_call 41; refine (rnone_any b R s _ hM).mono ?_; rintro e w' ⟨rfl, rfl⟩; rw [HD.out])
  go_ret
  exact ⟨rfl, rfl⟩

set_option maxHeartbeats 400000 in
theorem rpunct_out (b : Nat) (R : Ref) (i : Nat) (ts : Int) (w : World) (hM : MemR w b R) (hi : i < R.srcs.length) (hin : R.srcs[i].inn = false) :
    Calls Tryz.prog 29 #[.pointer (some ⟨b, 0, none⟩), .int .i64 i, .int .i64 ts] w fun e w' => e = .returned (.int .i64 4) ∧ w = w' := by
  have HD : Hid (decide ((i : Int) < 0 ∨ (R.srcs.length : Int) ≤ i) = false) := by show _ = _; simp; omega
  have c9 := hM.cells.2.1
  have s0 := hM.srcCell i 0 hi (by omega)
  simp only [RSrc.vals, List.getElem?_cons_zero, Nat.add_zero, hin] at s0
  have hi' : (i : Int) < (R.srcs.length : Int) := by omega
  have hi00 : (0 : Int) ≤ (i : Int) := by omega
  go_enter Tryz.func29, Tryz.ntmps29
  go_wp2_with (go_at_call 41; refine (rnone_any b R _ _ hM).mono ?_; rintro e w' ⟨rfl, rfl⟩; rw [HD.out])
  go_ret
  exact ⟨rfl, rfl⟩

def LeaveOk (R : Ref) (i : Nat) (R' : Ref) : Prop := ∃ hi : i < R.srcs.length, R' = ({ R with srcs := R.srcs.set i { R.srcs[i] with inn := false } } : Ref).settled
set_option maxRecDepth 100000 in
set_option maxHeartbeats 1000000 in
theorem rleave_ok (N b : Nat) (R : Ref) (i : Nat) (w : World) (hM : MemR w b R) (hsane : Sane N R) (hi : i < R.srcs.length) (hin : R.srcs[i].inn = true) :
    Calls Tryz.prog 25 #[.pointer (some ⟨b, 0, none⟩), .int .i64 i] w fun e w' => e = .returned (.int .i64 0) ∧ ∃ R', LeaveOk R i R' ∧ Evo w b R w' R' := by
  have HD : Hid (decide ((i : Int) < 0 ∨ (R.srcs.length : Int) ≤ i) = false) := by show _ = _; simp; omega
  have c9 := hM.cells.2.1
  have s0 := hM.srcCell i 0 hi (by omega)
  simp only [RSrc.vals, List.getElem?_cons_zero, List.getElem?_cons_succ, Nat.add_zero, hin] at s0
  have f0 := hM.srcFrozen (i * 5) (by omega)
  have hi' : (i : Int) < (R.srcs.length : Int) := by omega
  have hi00 : (0 : Int) ≤ (i : Int) := by omega
  have HSn : Hid (Sane N R) := hsane
  clear hsane
  have HE1 : Hid (Evo w b R (w.setCell ⟨R.sg, i * 5, none⟩ (.bool false)) { R with srcs := R.srcs.set i { R.srcs[i] with inn := false } }) := hM.setSrcE { R.srcs[i] with inn := false } hi 0 (by omega) (.bool false) rfl ⟨rfl, rfl, rfl⟩ ⟨rfl, rfl, rfl⟩
  go_enter Tryz.func25, Tryz.ntmps25
  go_wp2_with (first
    | (go_at_call 41; refine (rnone_any b R _ _ hM).mono ?_; rintro e w' ⟨rfl, rfl⟩; rw [HD.out])
    | (go_at_call 54; refine (rsettleE b _ _ HE1.out.mem (by have := HSn.out.all; simp only; omega) (by have := HSn.out.n; simp only [List.length_set]; omega) HSn.out.ts').mono ?_; rintro e w9 ⟨rfl, hev⟩))
  go_ret
  exact ⟨rfl, _, ⟨hi, rfl⟩, HE1.out.trans hev⟩

set_option maxHeartbeats 400000 in
theorem rpunct_time (b : Nat) (R : Ref) (i : Nat) (ts : Int) (w : World) (hM : MemR w b R) (hi : i < R.srcs.length) (hin : R.srcs[i].inn = true) (ht : beyondB ts = true) :
    Calls Tryz.prog 29 #[.pointer (some ⟨b, 0, none⟩), .int .i64 i, .int .i64 ts] w fun e w' => e = .returned (.int .i64 6) ∧ w = w' := by
  have HD : Hid (decide ((i : Int) < 0 ∨ (R.srcs.length : Int) ≤ i) = false) := by show _ = _; simp; omega
  have HT : Hid (beyondB ts = true) := ht
  clear ht
  have c9 := hM.cells.2.1
  have s0 := hM.srcCell i 0 hi (by omega)
  simp only [RSrc.vals, List.getElem?_cons_zero, Nat.add_zero, hin] at s0
  have hi' : (i : Int) < (R.srcs.length : Int) := by omega
  have hi00 : (0 : Int) ≤ (i : Int) := by omega
  go_enter Tryz.func29, Tryz.ntmps29
  go_wp2_with (first
    | (go_at_call 41; refine (rnone_any b R _ _ hM).mono ?_; rintro e w' ⟨rfl, rfl⟩; rw [HD.out])
    | (go_at_call 66; refine (beyond_any _ _).mono ?_; rintro e w' ⟨rfl, rfl⟩; rw [HT.out]))
  go_ret
  exact ⟨rfl, rfl⟩

def Ref.touched (R : Ref) (i : Nat) (r : RSrc) : List Int := if R.isIdle i then r.marks ++ [R.merged] else r.marks
def PunctOk (R : Ref) (i : Nat) (ts : Int) (R' : Ref) : Prop := ∃ hi : i < R.srcs.length, ∃ r' : RSrc, r' = { R.srcs[i] with sil := 0, marks := R.touched i R.srcs[i] ++ [ts], ma := r'.ma, mc := r'.mc } ∧ R' = ({ R with srcs := R.srcs.set i r' } : Ref).settled

set_option maxRecDepth 100000 in
set_option maxHeartbeats 4000000 in
theorem rpunct_ok (N b : Nat) (R : Ref) (i : Nat) (ts : Int) (w : World) (hM : MemR w b R) (hsane : Sane N R) (hN : N ≤ 8000000000000) (hi : i < R.srcs.length) (hin : R.srcs[i].inn = true) (ht : beyondB ts = false) :
    Calls Tryz.prog 29 #[.pointer (some ⟨b, 0, none⟩), .int .i64 i, .int .i64 ts] w fun e w' => e = .returned (.int .i64 0) ∧ ∃ R', PunctOk R i ts R' ∧ Evo w b R w' R' := by
  obtain ⟨i0, hi0, hz0, hz1, hz2⟩ := info_parts Tryz.infoInt
  have HD : Hid (decide ((i : Int) < 0 ∨ (R.srcs.length : Int) ≤ i) = false) := by show _ = _; simp; omega
  have HT : Hid (beyondB ts = false) := ht
  clear ht
  have hml := (hsane.marks i _ (List.getElem?_eq_getElem hi)).1
  have c9 := hM.cells.2.1
  have s0 := hM.srcCell i 0 hi (by omega)
  simp only [RSrc.vals, List.getElem?_cons_zero, List.getElem?_cons_succ, Nat.add_zero, hin] at s0
  have hi' : (i : Int) < (R.srcs.length : Int) := by omega
  have hi00 : (0 : Int) ≤ (i : Int) := by omega
  have HM0 : Hid (MemR w b R) := hM
  have HSn : Hid (Sane N R) := hsane
  clear hsane
  go_enter Tryz.func29, Tryz.ntmps29
  go_upto_region 10 with (first
    | (go_at_call 41; refine (rnone_any b R _ _ HM0.out).mono ?_; rintro e w' ⟨rfl, rfl⟩; rw [HD.out])
    | (go_at_call 66; refine (beyond_any _ _).mono ?_; rintro e w' ⟨rfl, rfl⟩; rw [HT.out])
    | (go_at_call 64; refine (rtouch_any b R i _ HM0.out hi (by omega)).mono ?_; rintro e wq ⟨rfl, r1, hr1, hev1⟩; have HR0 : Hid (r1 = { R.srcs[i] with sil := 0, marks := if R.isIdle i then R.srcs[i].marks ++ [R.merged] else R.srcs[i].marks, ma := r1.ma, mc := r1.mc }) := hr1; have HE0 : Hid (Evo w b R wq { R with srcs := R.srcs.set i r1 }) := hev1; clear hr1 hev1))
  obtain ⟨R1, HR1⟩ := hex ({ R with srcs := R.srcs.set i r1 } : Ref)
  have HE1 : Hid (Evo w b R wq R1) := by show Evo _ _ _ _ _; rw [HR1.out]; exact HE0.out
  clear c9 s0 HE0
  have HH : Hid (MemR wq b R1) := HE1.out.mem
  have HX : Hid (i < R.srcs.length) := hi
  have hl1 : R1.srcs.length = R.srcs.length := by have := HR1.out; subst this; simp
  have hi : i < R1.srcs.length := by rw [hl1]; exact HX.out
  have hi' : (i : Int) < (R1.srcs.length : Int) := by omega
  have hml1 : R1.srcs[i].marks.length ≤ N + 1 := by
    have := HR1.out; subst this
    have e : r1.marks.length ≤ N + 1 := by
      rw [HR0.out]; simp only
      split
      · simp; exact hml
      · omega
    simpa using e
  clear hl1
  have c9 := HH.out.cells.2.1
  have s2 := HH.out.srcCell i 2 hi (by omega)
  simp only [RSrc.vals, List.getElem?_cons_succ, List.getElem?_cons_zero] at s2
  have HM : Hid (Row wq 3 1 R1.srcs[i].ma R1.srcs[i].marks.length R1.srcs[i].mc (ints R1.srcs[i].marks)) := HH.out.mrk i _ (List.getElem?_eq_getElem hi)
  refine upTo_region (fun u => u.cell? ⟨b, 9, none⟩ = some (.slice (some ⟨R1.sg, 0, none⟩) R1.srcs.length R1.sc) ∧ u.cell? ⟨R1.sg, i * 5 + 2, none⟩ = some (.slice R1.srcs[i].ma R1.srcs[i].marks.length R1.srcs[i].mc)) 18 19 rfl (by kernel_rfl) ?_
  have hS0 : (fun u : World => u.cell? ⟨b, 9, none⟩ = some (.slice (some ⟨R1.sg, 0, none⟩) R1.srcs.length R1.sc) ∧ u.cell? ⟨R1.sg, i * 5 + 2, none⟩ = some (.slice R1.srcs[i].ma R1.srcs[i].marks.length R1.srcs[i].mc)) wq.drew := ⟨c9, s2⟩
  refine upTo_tk (i := 0) (v := ?v4_0) rfl (by kernel_rfl) (fun _ _ _ h => h) (by rfl) hS0 ?h4_0 ?r4_0
  case h4_0 => (intro u hu; (try dsimp only at hu); go_simp; first | done | with_reducible rfl)
  (try simp only [Act.put, tkS])
  refine upTo_tk (i := 1) (v := ?v4_1) rfl (by kernel_rfl) (fun _ _ _ h => h) (by rfl) hS0 ?h4_1 ?r4_1
  case h4_1 => (intro u hu; (try dsimp only at hu); go_simp; first | done | with_reducible rfl)
  (try simp only [Act.put, tkS])
  refine upTo_tk (i := 2) (v := ?v4_2) rfl (by kernel_rfl) (fun _ _ _ h => h) (by rfl) hS0 ?h4_2 ?r4_2
  case h4_2 => (intro u hu; (try dsimp only at hu); go_simp; first | done | with_reducible rfl)
  (try simp only [Act.put, tkS])
  refine upTo_tk (i := 3) (v := ?v4_3) rfl (by kernel_rfl) (fun _ _ _ h => h) (by rfl) hS0 ?h4_3 ?r4_3
  case h4_3 => (intro u hu; (try dsimp only at hu); go_simp; first | done | with_reducible rfl)
  (try simp only [Act.put, tkS])
  refine upTo_tk (i := 4) (v := ?v4_4) rfl (by kernel_rfl) (fun _ _ _ h => h) (by rfl) hS0 ?h4_4 ?r4_4
  case h4_4 => (intro u hu; (try dsimp only at hu); go_simp; first | done | with_reducible rfl)
  (try simp only [Act.put, tkS])
  refine upTo_tk (i := 5) (v := ?v4_5) rfl (by kernel_rfl) (fun _ _ _ h => h) (by rfl) hS0 ?h4_5 ?r4_5
  case h4_5 => (intro u hu; (try dsimp only at hu); go_simp; first | done | with_reducible rfl)
  (try simp only [Act.put, tkS])
  refine upTo_tk (i := 6) (v := ?v4_6) rfl (by kernel_rfl) (fun _ _ _ h => h) (by rfl) hS0 ?h4_6 ?r4_6
  case h4_6 => (intro u hu; (try dsimp only at hu); go_simp; first | done | with_reducible rfl)
  (try simp only [Act.put, tkS])
  refine upTo_tk (i := 7) (v := ?v4_7) rfl (by kernel_rfl) (fun _ _ _ h => h) (by rfl) hS0 ?h4_7 ?r4_7
  case h4_7 => (intro u hu; (try dsimp only at hu); go_simp; first | done | with_reducible rfl)
  (try simp only [Act.put, tkS])
  refine upTo_tk (i := 8) (v := ?v4_8) rfl (by kernel_rfl) (fun _ _ _ h => h) (by rfl) hS0 ?h4_8 ?r4_8
  case h4_8 => (intro u hu; (try dsimp only at hu); go_simp; first | done | with_reducible rfl)
  (try simp only [Act.put, tkS])
  refine upTo_tk (i := 9) (v := ?v4_9) rfl (by kernel_rfl) (fun _ _ _ h => h) (by rfl) hS0 ?h4_9 ?r4_9
  case h4_9 => (intro u hu; (try dsimp only at hu); go_simp; first | done | with_reducible rfl)
  (try simp only [Act.put, tkS])
  refine upTo_tk (i := 10) (v := ?v4_10) rfl (by kernel_rfl) (fun _ _ _ h => h) (by rfl) hS0 ?h4_10 ?r4_10
  case h4_10 => (intro u hu; (try dsimp only at hu); go_simp; first | done | with_reducible rfl)
  (try simp only [Act.put, tkS])
  refine upTo_tk (i := 11) (v := ?v4_11) rfl (by kernel_rfl) (fun _ _ _ h => h) (by rfl) hS0 ?h4_11 ?r4_11
  case h4_11 => (intro u hu; (try dsimp only at hu); go_simp; first | done | with_reducible rfl)
  (try simp only [Act.put, tkS])
  refine upTo_tk (i := 12) (v := ?v4_12) rfl (by kernel_rfl) (fun _ _ _ h => h) (by rfl) hS0 ?h4_12 ?r4_12
  case h4_12 => (intro u hu; (try dsimp only at hu); go_simp; first | done | with_reducible rfl)
  (try simp only [Act.put, tkS])
  refine upTo_tk (i := 13) (v := ?v4_13) rfl (by kernel_rfl) (fun _ _ _ h => h) (by rfl) hS0 ?h4_13 ?r4_13
  case h4_13 => (intro u hu; (try dsimp only at hu); go_simp; first | done | with_reducible rfl)
  (try simp only [Act.put, tkS])
  refine upTo_one (i := 14) (by kernel_rfl) rfl (fun K hK => ?_)
  go_simp
  refine hK.out _ _ (fun _ => ⟨(HH.out.alloc _).cells.2.1, by have := (HH.out.alloc (.cells #[.int .i64 ts] 3)).srcCell i 2 hi (by omega); simpa [RSrc.vals] using this⟩) ?_
  clear hK K
  (try simp only [Act.put, tkS])
  refine upTo_one (i := 15) (by kernel_rfl) rfl (fun K hK => ?_)
  refine step_append_lies _ (by rfl) _ _ _ (by rfl) 0 3 i0 _ 1 8 Tryz.underlying36 hi0 hz0 hz1 hz2 rfl (by omega) (.slice R1.srcs[i].ma R1.srcs[i].marks.length R1.srcs[i].mc) R1.srcs[i].marks.length (ints R1.srcs[i].marks) (by rfl) (ownsRow_of_heap HM.out (fun k hk => Below.heap_alloc _ _ _ hk)) ⟨wq.heap.size, 0, none⟩ 1 1 [.int .i64 ts] (by rfl) (by rfl) (World.news_of_block (cs := #[.int .i64 ts]) (t := 3) (fr := (0, 0)) (heap_alloc_new wq _)) (by simp [Value.oneCell']) (by omega) (by unfold maxLen; omega) (by omega) (by omega) (wq.heap.size + 1) (by simp) ?_
  intro gg cap w1 hown1 hgrow hat hlt1
  have hb0 : Below wq.heap.size wq (wq.alloc (.cells #[.int .i64 ts] 3)).drew := ((Below.refl _ wq).alloc (Nat.le_refl _) _).drew
  obtain ⟨q0, q3, q4, qk⟩ := tS HH.out hb0 hi hown1 hgrow hat
  refine hK.out _ _ (fun _ => ⟨q0.cell 9, q3⟩) ?_
  clear hK K hS0
  (try simp only [Act.put, tkS])
  refine upTo_one (i := 16) (by kernel_rfl) rfl (fun K hK => ?_)
  go_simp
  refine hK.out _ _ (fun _ => ⟨q0.cell 9, q3⟩) ?_
  clear hK K
  (try simp only [Act.put, tkS])
  refine upTo_one (i := 17) (by kernel_rfl) rfl (fun K hK => ?_)
  go_simp
  refine hK.out _ _ (fun _ => ⟨q0.cell 9, q3⟩) ?_
  clear hK K
  (try simp only [Act.put, tkS])
  refine upTo_one (i := 18) (by kernel_rfl) rfl (fun K hK => ?_)
  go_simp
  refine hK.out _ _ (fun h => absurd rfl h) ?_
  clear hK K
  (try simp only [Act.put, tkS])
  refine upTo_done (by kernel_rfl) ?_
  obtain ⟨RZ, HRZ⟩ := hex ({ R1 with srcs := R1.srcs.set i { R1.srcs[i] with marks := R1.srcs[i].marks ++ [ts], ma := some ⟨gg, 0, none⟩, mc := cap } } : Ref)
  have HE2 : Hid (Evo wq b R1 (w1.setCell ⟨R1.sg, i * 5 + 2, none⟩ (.slice (some ⟨gg, 0, none⟩) (R1.srcs[i].marks.length + 1) cap)) RZ) := by show Evo _ _ _ _ _; rw [HRZ.out]; exact HH.out.appMarkE hb0 hi hown1 hgrow hat
  clear q0 q3 q4 qk c9 s2 hown1 hgrow hat hlt1 hb0 HM
  generalize w1.setCell ⟨R1.sg, i * 5 + 2, none⟩ (.slice (some ⟨gg, 0, none⟩) (R1.srcs[i].marks.length + 1) cap) = wz at *
  have HZ : Hid (PunctOk R i ts RZ.settled) := by
    show PunctOk _ _ _ _
    have e2 := HRZ.out
    have e1 := HR1.out
    subst e1
    subst e2
    refine ⟨HX.out, { (R.srcs[i]'HX.out) with sil := 0, marks := R.touched i (R.srcs[i]'HX.out) ++ [ts], ma := some ⟨gg, 0, none⟩, mc := cap }, rfl, ?_⟩
    have e : r1 = { (R.srcs[i]'HX.out) with sil := 0, marks := R.touched i (R.srcs[i]'HX.out), ma := r1.ma, mc := r1.mc } := HR0.out
    simp only [List.getElem_set_self, List.set_set]
    congr 2
    rw [e]
  have HQ1 : Hid (RZ.all = R.all ∧ RZ.srcs.length = R.srcs.length) := by
    show _ ∧ _
    have e2 := HRZ.out
    have e1 := HR1.out
    subst e1
    subst e2
    simp
  go_wp2_with (go_at_call 54; refine (rsettleE b RZ _ HE2.out.mem (by rw [HQ1.out.1]; have := HSn.out.all; omega) (by rw [HQ1.out.2]; exact HSn.out.n) (by rw [HQ1.out.1]; exact HSn.out.ts')).mono ?_; rintro e w9 ⟨rfl, hev⟩)
  go_ret
  exact ⟨rfl, RZ.settled, HZ.out, (HE1.out.trans HE2.out).trans hev⟩
end Go.Proofs.YtghcololkgeoeabGreat
