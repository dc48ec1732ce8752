import Derived.Test.YthiabdpgieppoaaGreatRefE
namespace Go.Proofs.YthiabdpgieppoaaGreat
open Go.RowKit
set_option linter.unusedVariables false
set_option linter.unusedSimpArgs false
attribute [local go_sem ↓] Go.wp_at_zero Go.wp_at_succ

theorem hex {α : Type} (a : α) : ∃ x, Hid (x = a) := ⟨a, rfl⟩
theorem rsettleE (b : Nat) (R : Ref) (w : World) (h : MemR w b R) (hall : R.all.length ≤ 1000) (hn : R.srcs.length ≤ 6) (hts : ∀ e ∈ R.all, -4398046511104 ≤ e.ts ∧ e.ts ≤ 4398046511104) :
    Calls Tryz.prog 40 #[.pointer (some ⟨b, 0, none⟩)] w fun e w' => e = .returned (.tuple #[]) ∧ Evo w b R w' R.settled :=
  (rsettle_any b R w h hall hn hts).mono fun e w' ⟨he, hm, hk⟩ => ⟨he, hm, hk.mono (fun k _ e => by subst e; simp [Ref.fp]), fun k hk => Or.inl (by rwa [settled_fp] at hk)⟩

/-- the bounds that every state of the script keeps -/
structure Sane (N : Nat) (R : Ref) : Prop where
  all : R.all.length ≤ 200
  aside : R.aside.length ≤ 200
  n : R.srcs.length ≤ 6
  ts : ∀ e ∈ R.all, -1099511627776 ≤ e.ts ∧ e.ts ≤ 1099511627776 + 200
  marks : ∀ (i : Nat) r, R.srcs[i]? = some r → r.marks.length ≤ N ∧ r.seqs.length ≤ N
  sil : ∀ (i : Nat) r, R.srcs[i]? = some r → 0 ≤ r.sil ∧ r.sil ≤ 1000 * (N : Int)
theorem Sane.ts' {N : Nat} {R : Ref} (h : Sane N R) : ∀ e ∈ R.all, -4398046511104 ≤ e.ts ∧ e.ts ≤ 4398046511104 := fun e he => by have := h.ts e he; omega

/-- Join: the error, or the engine behind -/
def JoinOk (R : Ref) (i : Nat) (r' : RSrc) (R' : Ref) : Prop := ∃ hi : i < R.srcs.length, r' = { R.srcs[i] with inn := true, sil := 0, marks := R.srcs[i].marks ++ [R.merged], ma := r'.ma, mc := r'.mc } ∧ R' = ({ R with srcs := R.srcs.set i r' } : Ref).settled

set_option maxHeartbeats 400000 in
theorem rjoin_none (b : Nat) (R : Ref) (s : Int) (w : World) (hM : MemR w b R) (hs : s < 0 ∨ (R.srcs.length : Int) ≤ s) :
    Calls Tryz.prog 15 #[.pointer (some ⟨b, 0, none⟩), .int .i64 s] w fun e w' => e = .returned (.int .i64 3) ∧ w = w' := by
  have hd : decide (s < 0 ∨ (R.srcs.length : Int) ≤ s) = true := by simpa using hs
  have HD : Hid (decide (s < 0 ∨ (R.srcs.length : Int) ≤ s) = true) := hd
  clear hd hs
  go_enter Tryz.func15, Tryz.ntmps15
  go_wp2_with (go_at_call 39; refine (rnone_any b R s _ hM).mono ?_; rintro e w' ⟨rfl, rfl⟩; rw [HD.out])
  go_ret
  exact ⟨rfl, rfl⟩

set_option maxHeartbeats 400000 in
theorem rjoin_in (b : Nat) (R : Ref) (i : Nat) (w : World) (hM : MemR w b R) (hi : i < R.srcs.length) (hin : R.srcs[i].inn = true) :
    Calls Tryz.prog 15 #[.pointer (some ⟨b, 0, none⟩), .int .i64 i] w fun e w' => e = .returned (.int .i64 4) ∧ w = w' := by
  have HD : Hid (decide ((i : Int) < 0 ∨ (R.srcs.length : Int) ≤ i) = false) := by show _ = _; simp; omega
  have c9 := hM.cells.2.1
  have s0 := hM.srcCell i 0 hi (by omega)
  simp only [RSrc.vals, List.getElem?_cons_zero, Nat.add_zero, hin] at s0
  have hi' : (i : Int) < (R.srcs.length : Int) := by omega
  have hi00 : (0 : Int) ≤ (i : Int) := by omega
  go_enter Tryz.func15, Tryz.ntmps15
  go_wp2_with (go_at_call 39; refine (rnone_any b R _ _ hM).mono ?_; rintro e w' ⟨rfl, rfl⟩; rw [HD.out])
  go_ret
  exact ⟨rfl, rfl⟩

set_option maxRecDepth 100000 in
set_option maxHeartbeats 4000000 in
theorem rjoin_ok (N b : Nat) (R : Ref) (i : Nat) (w : World) (hM : MemR w b R) (hsane : Sane N R) (hN : N ≤ 9000000000000) (hi : i < R.srcs.length) (hin : R.srcs[i].inn = false) :
    Calls Tryz.prog 15 #[.pointer (some ⟨b, 0, none⟩), .int .i64 i] w fun e w' => e = .returned (.int .i64 0) ∧ ∃ r' R', JoinOk R i r' R' ∧ Evo w b R w' R' := by
  obtain ⟨i0, hi0, hz0, hz1, hz2⟩ := info_parts Tryz.infoInt
  have HD : Hid (decide ((i : Int) < 0 ∨ (R.srcs.length : Int) ≤ i) = false) := by show _ = _; simp; omega
  have hml := (hsane.marks i _ (List.getElem?_eq_getElem hi)).1
  have c9 := hM.cells.2.1
  have s0 := hM.srcCell i 0 hi (by omega)
  have s1 := hM.srcCell i 1 hi (by omega)
  simp only [RSrc.vals, List.getElem?_cons_zero, List.getElem?_cons_succ, Nat.add_zero, hin] at s0 s1
  have f0 := hM.srcFrozen (i * 5) (by omega)
  have f1 := hM.srcFrozen (i * 5 + 1) (by omega)
  have hi' : (i : Int) < (R.srcs.length : Int) := by omega
  have hi00 : (0 : Int) ≤ (i : Int) := by omega
  have HM0 : Hid (MemR w b R) := hM
  have HSn : Hid (Sane N R) := hsane
  have hbs : b ≠ R.sg := fun e => by have := hM.dis 0 2 b rfl (by rw [e]; rfl); omega
  clear hsane
  go_enter Tryz.func15, Tryz.ntmps15
  go_upto_region 8 with (go_at_call 39; refine (rnone_any b R _ _ HM0.out).mono ?_; rintro e w' ⟨rfl, rfl⟩; rw [HD.out])
  -- BEHIND the two stores
  obtain ⟨R1, HR1⟩ := hex ({ R with srcs := R.srcs.set i { R.srcs[i] with inn := true, sil := 0 } } : Ref)
  have HE1 : Hid (Evo w b R ((w.setCell ⟨R.sg, i * 5, none⟩ (.bool true)).setCell ⟨R.sg, i * 5 + 1, none⟩ (.int .i64 0)) R1) := by
    show Evo _ _ _ _ _
    rw [HR1.out]
    have e1 := HM0.out.setSrcE { R.srcs[i] with inn := true } hi 0 (by omega) (.bool true) rfl ⟨rfl, rfl, rfl⟩ ⟨rfl, rfl, rfl⟩
    have e2 := e1.mem.setSrcE (i := i) { R.srcs[i] with inn := true, sil := 0 } (by simp; exact hi) 1 (by omega) (.int .i64 0) (by simp [RSrc.vals]) (by simp) (by simp)
    simp only [List.set_set] at e2
    exact e1.trans e2
  clear c9 s0 s1 f0 f1
  generalize (w.setCell ⟨R.sg, i * 5, none⟩ (.bool true)).setCell ⟨R.sg, i * 5 + 1, none⟩ (.int .i64 0) = wq at *
  have HH : Hid (MemR wq b R1) := HE1.out.mem
  have HX : Hid (i < R.srcs.length) := hi
  have hl1 : R1.srcs.length = R.srcs.length := by have := HR1.out; subst this; simp
  have hi : i < R1.srcs.length := by rw [hl1]; exact HX.out
  have hi' : (i : Int) < (R1.srcs.length : Int) := by omega
  have hml1 : R1.srcs[i].marks.length ≤ N := by have := HR1.out; subst this; simpa using hml
  have c12 := HH.out.cells.2.2.2.2
  clear hl1
  have c9 := HH.out.cells.2.1
  have s2 := HH.out.srcCell i 2 hi (by omega)
  simp only [RSrc.vals, List.getElem?_cons_succ, List.getElem?_cons_zero] at s2
  have HM : Hid (Row wq 3 1 R1.srcs[i].ma R1.srcs[i].marks.length R1.srcs[i].mc (ints R1.srcs[i].marks)) := HH.out.mrk i _ (List.getElem?_eq_getElem hi)
  refine upTo_region (fun u => u.cell? ⟨b, 9, none⟩ = some (.slice (some ⟨R1.sg, 0, none⟩) R1.srcs.length R1.sc) ∧ u.cell? ⟨b, 12, none⟩ = some (.int .i64 R1.merged) ∧ u.cell? ⟨R1.sg, i * 5 + 2, none⟩ = some (.slice R1.srcs[i].ma R1.srcs[i].marks.length R1.srcs[i].mc)) 21 22 rfl (by kernel_rfl) ?_
  have hS0 : (fun u : World => u.cell? ⟨b, 9, none⟩ = some (.slice (some ⟨R1.sg, 0, none⟩) R1.srcs.length R1.sc) ∧ u.cell? ⟨b, 12, none⟩ = some (.int .i64 R1.merged) ∧ u.cell? ⟨R1.sg, i * 5 + 2, none⟩ = some (.slice R1.srcs[i].ma R1.srcs[i].marks.length R1.srcs[i].mc)) wq.drew := ⟨c9, c12, s2⟩
  refine upTo_take (i := 0) (v := ?v2_0) rfl (by kernel_rfl) (by kernel_rfl) (by kernel_rfl) (by kernel_rfl) (by rfl) (fun _ _ _ h => h) (by rfl) hS0 ?hy2_0 ?rest2_0
  case hy2_0 => (intro u hu; (try dsimp only at hu); go_simp; first | done | with_reducible rfl)
  (try simp only [Act.put, List.setIfInBounds_toArray, List.set_cons_zero, List.set_cons_succ, List.getElem_toArray, List.getElem_cons_succ, List.getElem_cons_zero])
  refine upTo_take (i := 1) (v := ?v2_1) rfl (by kernel_rfl) (by kernel_rfl) (by kernel_rfl) (by kernel_rfl) (by rfl) (fun _ _ _ h => h) (by rfl) hS0 ?hy2_1 ?rest2_1
  case hy2_1 => (intro u hu; (try dsimp only at hu); go_simp; first | done | with_reducible rfl)
  (try simp only [Act.put, List.setIfInBounds_toArray, List.set_cons_zero, List.set_cons_succ, List.getElem_toArray, List.getElem_cons_succ, List.getElem_cons_zero])
  refine upTo_take (i := 2) (v := ?v2_2) rfl (by kernel_rfl) (by kernel_rfl) (by kernel_rfl) (by kernel_rfl) (by rfl) (fun _ _ _ h => h) (by rfl) hS0 ?hy2_2 ?rest2_2
  case hy2_2 => (intro u hu; (try dsimp only at hu); go_simp; first | done | with_reducible rfl)
  (try simp only [Act.put, List.setIfInBounds_toArray, List.set_cons_zero, List.set_cons_succ, List.getElem_toArray, List.getElem_cons_succ, List.getElem_cons_zero])
  refine upTo_take (i := 3) (v := ?v2_3) rfl (by kernel_rfl) (by kernel_rfl) (by kernel_rfl) (by kernel_rfl) (by rfl) (fun _ _ _ h => h) (by rfl) hS0 ?hy2_3 ?rest2_3
  case hy2_3 => (intro u hu; (try dsimp only at hu); go_simp; first | done | with_reducible rfl)
  (try simp only [Act.put, List.setIfInBounds_toArray, List.set_cons_zero, List.set_cons_succ, List.getElem_toArray, List.getElem_cons_succ, List.getElem_cons_zero])
  refine upTo_take (i := 4) (v := ?v2_4) rfl (by kernel_rfl) (by kernel_rfl) (by kernel_rfl) (by kernel_rfl) (by rfl) (fun _ _ _ h => h) (by rfl) hS0 ?hy2_4 ?rest2_4
  case hy2_4 => (intro u hu; (try dsimp only at hu); go_simp; first | done | with_reducible rfl)
  (try simp only [Act.put, List.setIfInBounds_toArray, List.set_cons_zero, List.set_cons_succ, List.getElem_toArray, List.getElem_cons_succ, List.getElem_cons_zero])
  refine upTo_take (i := 5) (v := ?v2_5) rfl (by kernel_rfl) (by kernel_rfl) (by kernel_rfl) (by kernel_rfl) (by rfl) (fun _ _ _ h => h) (by rfl) hS0 ?hy2_5 ?rest2_5
  case hy2_5 => (intro u hu; (try dsimp only at hu); go_simp; first | done | with_reducible rfl)
  (try simp only [Act.put, List.setIfInBounds_toArray, List.set_cons_zero, List.set_cons_succ, List.getElem_toArray, List.getElem_cons_succ, List.getElem_cons_zero])
  refine upTo_take (i := 6) (v := ?v2_6) rfl (by kernel_rfl) (by kernel_rfl) (by kernel_rfl) (by kernel_rfl) (by rfl) (fun _ _ _ h => h) (by rfl) hS0 ?hy2_6 ?rest2_6
  case hy2_6 => (intro u hu; (try dsimp only at hu); go_simp; first | done | with_reducible rfl)
  (try simp only [Act.put, List.setIfInBounds_toArray, List.set_cons_zero, List.set_cons_succ, List.getElem_toArray, List.getElem_cons_succ, List.getElem_cons_zero])
  refine upTo_take (i := 7) (v := ?v2_7) rfl (by kernel_rfl) (by kernel_rfl) (by kernel_rfl) (by kernel_rfl) (by rfl) (fun _ _ _ h => h) (by rfl) hS0 ?hy2_7 ?rest2_7
  case hy2_7 => (intro u hu; (try dsimp only at hu); go_simp; first | done | with_reducible rfl)
  (try simp only [Act.put, List.setIfInBounds_toArray, List.set_cons_zero, List.set_cons_succ, List.getElem_toArray, List.getElem_cons_succ, List.getElem_cons_zero])
  refine upTo_take (i := 8) (v := ?v2_8) rfl (by kernel_rfl) (by kernel_rfl) (by kernel_rfl) (by kernel_rfl) (by rfl) (fun _ _ _ h => h) (by rfl) hS0 ?hy2_8 ?rest2_8
  case hy2_8 => (intro u hu; (try dsimp only at hu); go_simp; first | done | with_reducible rfl)
  (try simp only [Act.put, List.setIfInBounds_toArray, List.set_cons_zero, List.set_cons_succ, List.getElem_toArray, List.getElem_cons_succ, List.getElem_cons_zero])
  refine upTo_take (i := 9) (v := ?v2_9) rfl (by kernel_rfl) (by kernel_rfl) (by kernel_rfl) (by kernel_rfl) (by rfl) (fun _ _ _ h => h) (by rfl) hS0 ?hy2_9 ?rest2_9
  case hy2_9 => (intro u hu; (try dsimp only at hu); go_simp; first | done | with_reducible rfl)
  (try simp only [Act.put, List.setIfInBounds_toArray, List.set_cons_zero, List.set_cons_succ, List.getElem_toArray, List.getElem_cons_succ, List.getElem_cons_zero])
  refine upTo_take (i := 10) (v := ?v2_10) rfl (by kernel_rfl) (by kernel_rfl) (by kernel_rfl) (by kernel_rfl) (by rfl) (fun _ _ _ h => h) (by rfl) hS0 ?hy2_10 ?rest2_10
  case hy2_10 => (intro u hu; (try dsimp only at hu); go_simp; first | done | with_reducible rfl)
  (try simp only [Act.put, List.setIfInBounds_toArray, List.set_cons_zero, List.set_cons_succ, List.getElem_toArray, List.getElem_cons_succ, List.getElem_cons_zero])
  refine upTo_take (i := 11) (v := ?v2_11) rfl (by kernel_rfl) (by kernel_rfl) (by kernel_rfl) (by kernel_rfl) (by rfl) (fun _ _ _ h => h) (by rfl) hS0 ?hy2_11 ?rest2_11
  case hy2_11 => (intro u hu; (try dsimp only at hu); go_simp; first | done | with_reducible rfl)
  (try simp only [Act.put, List.setIfInBounds_toArray, List.set_cons_zero, List.set_cons_succ, List.getElem_toArray, List.getElem_cons_succ, List.getElem_cons_zero])
  refine upTo_take (i := 12) (v := ?v2_12) rfl (by kernel_rfl) (by kernel_rfl) (by kernel_rfl) (by kernel_rfl) (by rfl) (fun _ _ _ h => h) (by rfl) hS0 ?hy2_12 ?rest2_12
  case hy2_12 => (intro u hu; (try dsimp only at hu); go_simp; first | done | with_reducible rfl)
  (try simp only [Act.put, List.setIfInBounds_toArray, List.set_cons_zero, List.set_cons_succ, List.getElem_toArray, List.getElem_cons_succ, List.getElem_cons_zero])
  refine upTo_take (i := 13) (v := ?v2_13) rfl (by kernel_rfl) (by kernel_rfl) (by kernel_rfl) (by kernel_rfl) (by rfl) (fun _ _ _ h => h) (by rfl) hS0 ?hy2_13 ?rest2_13
  case hy2_13 => (intro u hu; (try dsimp only at hu); go_simp; first | done | with_reducible rfl)
  (try simp only [Act.put, List.setIfInBounds_toArray, List.set_cons_zero, List.set_cons_succ, List.getElem_toArray, List.getElem_cons_succ, List.getElem_cons_zero])
  refine upTo_take (i := 14) (v := ?v2_14) rfl (by kernel_rfl) (by kernel_rfl) (by kernel_rfl) (by kernel_rfl) (by rfl) (fun _ _ _ h => h) (by rfl) hS0 ?hy2_14 ?rest2_14
  case hy2_14 => (intro u hu; (try dsimp only at hu); go_simp; first | done | with_reducible rfl)
  (try simp only [Act.put, List.setIfInBounds_toArray, List.set_cons_zero, List.set_cons_succ, List.getElem_toArray, List.getElem_cons_succ, List.getElem_cons_zero])
  refine upTo_take (i := 15) (v := ?v2_15) rfl (by kernel_rfl) (by kernel_rfl) (by kernel_rfl) (by kernel_rfl) (by rfl) (fun _ _ _ h => h) (by rfl) hS0 ?hy2_15 ?rest2_15
  case hy2_15 => (intro u hu; (try dsimp only at hu); go_simp; first | done | with_reducible rfl)
  (try simp only [Act.put, List.setIfInBounds_toArray, List.set_cons_zero, List.set_cons_succ, List.getElem_toArray, List.getElem_cons_succ, List.getElem_cons_zero])
  refine upTo_take (i := 16) (v := ?v2_16) rfl (by kernel_rfl) (by kernel_rfl) (by kernel_rfl) (by kernel_rfl) (by rfl) (fun _ _ _ h => h) (by rfl) hS0 ?hy2_16 ?rest2_16
  case hy2_16 => (intro u hu; (try dsimp only at hu); go_simp; first | done | with_reducible rfl)
  (try simp only [Act.put, List.setIfInBounds_toArray, List.set_cons_zero, List.set_cons_succ, List.getElem_toArray, List.getElem_cons_succ, List.getElem_cons_zero])
  refine upTo_one (i := 17) (by kernel_rfl) rfl (fun K hK => ?_)
  go_simp
  refine hK.out _ _ (fun _ => ⟨(HH.out.alloc _).cells.2.1, (HH.out.alloc _).cells.2.2.2.2, by have := (HH.out.alloc (.cells #[.int .i64 R1.merged] 3)).srcCell i 2 hi (by omega); simpa [RSrc.vals] using this⟩) ?_
  clear hK K
  (try simp only [Act.put, List.setIfInBounds_toArray, List.set_cons_zero, List.set_cons_succ, List.getElem_toArray, List.getElem_cons_succ, List.getElem_cons_zero])
  refine upTo_one (i := 18) (by kernel_rfl) rfl (fun K hK => ?_)
  refine step_append_lies _ (by rfl) _ _ _ (by rfl) 0 3 i0 _ 1 8 Tryz.underlying26 hi0 hz0 hz1 hz2 rfl (by omega) (.slice R1.srcs[i].ma R1.srcs[i].marks.length R1.srcs[i].mc) R1.srcs[i].marks.length (ints R1.srcs[i].marks) (by rfl) (ownsRow_of_heap HM.out (fun k hk => Below.heap_alloc _ _ _ hk)) ⟨wq.heap.size, 0, none⟩ 1 1 [.int .i64 R1.merged] (by rfl) (by rfl) (World.news_of_block (cs := #[.int .i64 R1.merged]) (t := 3) (fr := (0, 0)) (heap_alloc_new wq _)) (by simp [Value.oneCell']) (by omega) (by unfold maxLen; omega) (by omega) (by omega) (wq.heap.size + 1) (by simp) ?_
  intro gg cap w1 hown1 hgrow hat hlt1
  have hb0 : Below wq.heap.size wq (wq.alloc (.cells #[.int .i64 R1.merged] 3)).drew := ((Below.refl _ wq).alloc (Nat.le_refl _) _).drew
  obtain ⟨q0, q3, q4, qk⟩ := tS HH.out hb0 hi hown1 hgrow hat
  refine hK.out _ _ (fun _ => ⟨q0.cell 9, q0.cell 12, q3⟩) ?_
  clear hK K hS0
  (try simp only [Act.put, List.setIfInBounds_toArray, List.set_cons_zero, List.set_cons_succ, List.getElem_toArray, List.getElem_cons_succ, List.getElem_cons_zero])
  refine upTo_one (i := 19) (by kernel_rfl) rfl (fun K hK => ?_)
  go_simp
  refine hK.out _ _ (fun _ => ⟨q0.cell 9, q0.cell 12, q3⟩) ?_
  clear hK K
  (try simp only [Act.put, List.setIfInBounds_toArray, List.set_cons_zero, List.set_cons_succ, List.getElem_toArray, List.getElem_cons_succ, List.getElem_cons_zero])
  refine upTo_one (i := 20) (by kernel_rfl) rfl (fun K hK => ?_)
  go_simp
  refine hK.out _ _ (fun _ => ⟨q0.cell 9, q0.cell 12, q3⟩) ?_
  clear hK K
  (try simp only [Act.put, List.setIfInBounds_toArray, List.set_cons_zero, List.set_cons_succ, List.getElem_toArray, List.getElem_cons_succ, List.getElem_cons_zero])
  refine upTo_one (i := 21) (by kernel_rfl) rfl (fun K hK => ?_)
  go_simp
  refine hK.out _ _ (fun h => absurd rfl h) ?_
  clear hK K
  (try simp only [Act.put, List.setIfInBounds_toArray, List.set_cons_zero, List.set_cons_succ, List.getElem_toArray, List.getElem_cons_succ, List.getElem_cons_zero])
  refine upTo_done (by kernel_rfl) ?_
  obtain ⟨RZ, HRZ⟩ := hex ({ R1 with srcs := R1.srcs.set i { R1.srcs[i] with marks := R1.srcs[i].marks ++ [R1.merged], ma := some ⟨gg, 0, none⟩, mc := cap } } : Ref)
  have HE2 : Hid (Evo wq b R1 (w1.setCell ⟨R1.sg, i * 5 + 2, none⟩ (.slice (some ⟨gg, 0, none⟩) (R1.srcs[i].marks.length + 1) cap)) RZ) := by show Evo _ _ _ _ _; rw [HRZ.out]; exact HH.out.appMarkE hb0 hi hown1 hgrow hat
  clear q0 q3 q4 qk c9 s2 hown1 hgrow hat hlt1 hb0 HM
  generalize w1.setCell ⟨R1.sg, i * 5 + 2, none⟩ (.slice (some ⟨gg, 0, none⟩) (R1.srcs[i].marks.length + 1) cap) = wz at *
  have HZ : Hid (∃ r' : RSrc, JoinOk R i r' RZ.settled) := by
    show ∃ r' : RSrc, _
    have e2 := HRZ.out
    have e1 := HR1.out
    subst e1
    subst e2
    exact ⟨{ R.srcs[i]'HX.out with inn := true, sil := 0, marks := (R.srcs[i]'HX.out).marks ++ [R.merged], ma := some ⟨gg, 0, none⟩, mc := cap }, HX.out, rfl, by simp [List.set_set]⟩
  have HQ1 : Hid (RZ.all = R.all ∧ RZ.srcs.length = R.srcs.length) := by
    show _ ∧ _
    have e2 := HRZ.out
    have e1 := HR1.out
    subst e1
    subst e2
    simp
  go_wp2_with (go_at_call 40; refine (rsettleE b RZ _ HE2.out.mem (by rw [HQ1.out.1]; have := HSn.out.all; omega) (by rw [HQ1.out.2]; exact HSn.out.n) (by rw [HQ1.out.1]; exact HSn.out.ts')).mono ?_; rintro e w9 ⟨rfl, hev⟩)
  go_ret
  obtain ⟨r', hr'⟩ := HZ.out
  exact ⟨rfl, r', RZ.settled, hr', (HE1.out.trans HE2.out).trans hev⟩
end Go.Proofs.YthiabdpgieppoaaGreat
