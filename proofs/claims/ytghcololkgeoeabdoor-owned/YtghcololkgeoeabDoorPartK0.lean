import Derived.Shelf.LaysM
import Derived.Shelf.Strconv.Itoa3
import Derived.Test.YtghcololkgeoeabDoorRows
import Derived.Test.YtghcololkgeoeabDoorPartC0
namespace Go.Proofs
open Go.Shelf
def Tryd.laysM171_ren : Go.Shelf.Ren := ⟨fun | 171 => 40 | 243 => 62 | 246 => 72 | 283 => 84 | 284 => 85 | 285 => 86 | 286 => 87 | 129 => 95 | 317 => 94 | 318 => 96 | 319 => 97 | 320 => 98 | 337 => 102 | 338 => 103 | n => n, fun | 3 => 3 | 9 => 9 | 2 => 2 | 4 => 4 | 171 => 129 | 0 => 0 | 53 => 130 | 37 => 90 | 5 => 5 | 173 => 133 | 212 => 137 | 51 => 138 | 20 => 20 | 213 => 139 | 46 => 140 | 232 => 144 | 233 => 145 | n => n, fun | 17 => 0 | 18 => 1 | 19 => 2 | n => n⟩
theorem Tryd.laysM171 : Go.Proofs.LaysM.n171 Tryd.prog Tryd.laysM171_ren := {
  mixed := by kernel_rfl
  f129 := Tryd.func95.trans (congrArg some (by kernel_rfl))
  f171 := Tryd.func40.trans (congrArg some (by kernel_rfl))
  f243 := Tryd.func62.trans (congrArg some (by kernel_rfl))
  f246 := Tryd.func72.trans (congrArg some (by kernel_rfl))
  f283 := Tryd.func84.trans (congrArg some (by kernel_rfl))
  f284 := Tryd.func85.trans (congrArg some (by kernel_rfl))
  f285 := Tryd.func86.trans (congrArg some (by kernel_rfl))
  f286 := Tryd.func87.trans (congrArg some (by kernel_rfl))
  f317 := Tryd.func94.trans (congrArg some (by kernel_rfl))
  f318 := Tryd.func96.trans (congrArg some (by kernel_rfl))
  f319 := Tryd.func97.trans (congrArg some (by kernel_rfl))
  f320 := Tryd.func98.trans (congrArg some (by kernel_rfl))
  f337 := Tryd.func102.trans (congrArg some (by kernel_rfl))
  f338 := Tryd.func103.trans (congrArg some (by kernel_rfl))
  t0 := Tryd.underlying0
  a0 := Tryd.isAgg0
  z0 := Tryd.sizeOf0
  v0 := Tryd.zeroValue0
  t2 := Tryd.underlying2
  a2 := Tryd.isAgg2
  z2 := Tryd.sizeOf2
  v2 := Tryd.zeroValue2
  t3 := Tryd.underlying3
  a3 := Tryd.isAgg3
  z3 := Tryd.sizeOf3
  v3 := Tryd.zeroValue3
  t4 := Tryd.underlying4
  a4 := Tryd.isAgg4
  z4 := Tryd.sizeOf4
  v4 := Tryd.zeroValue4
  t5 := Tryd.underlying5
  a5 := Tryd.isAgg5
  z5 := Tryd.sizeOf5
  v5 := Tryd.zeroValue5
  t9 := Tryd.underlying9
  a9 := Tryd.isAgg9
  z9 := Tryd.sizeOf9
  v9 := Tryd.zeroValue9
  t20 := Tryd.underlying20
  a20 := Tryd.isAgg20
  z20 := Tryd.sizeOf20
  v20 := Tryd.zeroValue20
  t37 := Tryd.underlying90
  a37 := Tryd.isAgg90
  z37 := Tryd.sizeOf90
  v37 := Tryd.zeroValue90
  t46 := Tryd.underlying140
  a46 := Tryd.isAgg140
  z46 := Tryd.sizeOf140
  v46 := Tryd.zeroValue140
  t51 := Tryd.underlying138
  a51 := Tryd.isAgg138
  z51 := Tryd.sizeOf138
  v51 := Tryd.zeroValue138
  t53 := Tryd.underlying130
  a53 := Tryd.isAgg130
  z53 := Tryd.sizeOf130
  v53 := Tryd.zeroValue130
  t171 := Tryd.underlying129
  a171 := Tryd.isAgg129
  z171 := Tryd.sizeOf129
  v171 := Tryd.zeroValue129
  t173 := Tryd.underlying133
  a173 := Tryd.isAgg133
  z173 := Tryd.sizeOf133
  v173 := Tryd.zeroValue133
  t212 := Tryd.underlying137
  a212 := Tryd.isAgg137
  z212 := Tryd.sizeOf137
  v212 := Tryd.zeroValue137
  t213 := Tryd.underlying139
  a213 := Tryd.isAgg139
  z213 := Tryd.sizeOf139
  t232 := Tryd.underlying144
  a232 := Tryd.isAgg144
  z232 := Tryd.sizeOf144
  v232 := Tryd.zeroValue144
  t233 := Tryd.underlying145
  a233 := Tryd.isAgg145
  z233 := Tryd.sizeOf145
  v233 := Tryd.zeroValue145
  g17 := by kernel_rfl
  g18 := by kernel_rfl
  g19 := by kernel_rfl
  i0 := by kernel_rfl
  i2 := by kernel_rfl
  i3 := by kernel_rfl
  i4 := by kernel_rfl
  i5 := by kernel_rfl
  i9 := by kernel_rfl
  i20 := by kernel_rfl
  i37 := by kernel_rfl
  i46 := by kernel_rfl
  i51 := by kernel_rfl
  i53 := by kernel_rfl
  i171 := by kernel_rfl
  i173 := by kernel_rfl
  i212 := by kernel_rfl
  i232 := by kernel_rfl
  i233 := by kernel_rfl
  m17 := by kernel_rfl
  m18 := by kernel_rfl
  m19 := by kernel_rfl }
open Go.RowKit Go.Sort Go.Lib in
/-- strconv.Itoa: "Itoa is equivalent to FormatInt(int64(i), 10).": i's DECIMAL NUMERAL ('Lib.itoa': a '-' where i is negative, then the digits), FOR EVERY int. The world behind the call: the world before it, new blocks behind the heap (the library's 'var a [24]byte'), draws. (LAID: no walk: one application.) -/
theorem Tryd.strconv_Itoa (n : Int) (h0 : -9223372036854775808 ≤ n) (h1 : n ≤ 9223372036854775807) (w : World) (htab : Lib.TabIs Tryd.prog w "internal/strconv.uint64pow10" .u64 Lib.pow10Tab) :
    Calls Tryd.prog 40 #[.int .i64 n] w fun e w' => e = .returned (.string ⟨(Lib.itoa n).toArray⟩) ∧ ∃ k os, w' = grow (w.drewN k) os := Any.strconv_Itoa Tryd.laysM171 n h0 h1 w htab
end Go.Proofs
namespace Go.Proofs.YtghcololkgeoeabDoor
open Go.RowKit
set_option linter.unusedVariables false
set_option linter.unusedSimpArgs false
attribute [local go_sem ↓] Go.wp_at_zero Go.wp_at_succ

/-! ### raw numbers -/
def pk (c n : Int) : Int := (if c < 0 then -(c + 1) else c) % n
theorem pk_range {c n : Int} (hn : 0 < n) : 0 ≤ pk c n ∧ pk c n < n := ⟨Int.emod_nonneg _ (by omega), Int.emod_lt_of_pos _ hn⟩
def I64 (c : Int) : Prop := -9223372036854775808 ≤ c ∧ c ≤ 9223372036854775807
set_option maxHeartbeats 400000 in
theorem pick_any (c n : Int) (w : World) (hc : I64 c) (hn : 0 < n) (hn' : n ≤ 9223372036854775807) :
    Calls Tryd.prog 10 #[.int .i64 c, .int .i64 n] w fun e w' => e = .returned (.int .i64 (pk c n)) ∧ w = w' := by
  unfold I64 at hc
  have h0 : (n == 0) = false := by simp; omega
  have hm1 : (n == -1) = false := by simp; omega
  by_cases h : c < 0
  · have e1 : IntKind.i64.wrap (c + 1) = c + 1 := by rw [IntKind.wrap_i64]; omega
    have e2 : IntKind.i64.wrap (-(c + 1)) = -(c + 1) := by rw [IntKind.wrap_i64]; omega
    have e3 : (-(c + 1)).tmod n = pk c n := by unfold pk; rw [if_pos h]; exact Int.tmod_eq_emod_of_nonneg (by omega)
    have hr := pk_range (c := c) hn
    have e4 : IntKind.i64.wrap (pk c n) = pk c n := by rw [IntKind.wrap_i64]; omega
    go_enter Tryd.func10, Tryd.ntmps10
    go_wp2
    go_ret
    exact ⟨by simp [e3, e4], rfl⟩
  · have e3 : c.tmod n = pk c n := by unfold pk; rw [if_neg h]; exact Int.tmod_eq_emod_of_nonneg (by omega)
    have hr := pk_range (c := c) hn
    have e4 : IntKind.i64.wrap (pk c n) = pk c n := by rw [IntKind.wrap_i64]; omega
    go_enter Tryd.func10, Tryd.ntmps10
    go_wp2
    go_ret
    exact ⟨by simp [e3, e4], rfl⟩

/-! ### a pattern out of a raw number -/
/-- kinds, barred kinds, what is left of the number, behind i steps -/
def patAt (k0 : Int) : Nat → (List Int × List Int) × Int
  | 0 => (([], []), k0)
  | i + 1 => ((((patAt k0 i).1.1 ++ [65 + (patAt k0 i).2 % 3]), ((patAt k0 i).1.2 ++ [if 0 < i ∧ (patAt k0 i).2 / 3 % 5 < 3 then 65 + (patAt k0 i).2 / 3 % 5 else 0])), (patAt k0 i).2 / 3 / 5)
theorem patAt_len (k0 : Int) (i : Nat) : (patAt k0 i).1.1.length = i ∧ (patAt k0 i).1.2.length = i := by
  induction i with
  | zero => exact ⟨rfl, rfl⟩
  | succ i ih => simp [patAt, ih.1, ih.2]
theorem patAt_pos {k0 : Int} (h : 0 ≤ k0 ∧ k0 ≤ 1125899906842624) (i : Nat) : 0 ≤ (patAt k0 i).2 ∧ (patAt k0 i).2 ≤ 1125899906842624 := by
  induction i with
  | zero => exact h
  | succ i ih => simp only [patAt]; omega
def patN (raw : Int) : Nat := (pk raw 1125899906842624 % 4).toNat
def patK0 (raw : Int) : Int := pk raw 1125899906842624 / 4
def patKinds (raw : Int) : List Int := (patAt (patK0 raw) (patN raw)).1.1
def patNots (raw : Int) : List Int := (patAt (patK0 raw) (patN raw)).1.2
def patRest (raw : Int) : Int := (patAt (patK0 raw) (patN raw)).2
def patIsOne (raw : Int) : Bool := decide (patRest raw % 2 = 1)
def patWindow (raw : Int) : Int := if 1099511627776 < patRest raw / 2 then 1099511627776 else patRest raw / 2
def pat4 (ka : Option Addr) (n kc : Nat) (na : Option Addr) (m nc : Nat) (o : Bool) (win : Int) : List Value := [.slice ka n kc, .slice na m nc, .bool o, .int .i64 win]
/-- the world while a pattern is made -/
structure PatK (w wr : World) (k0 : Int) (i : Nat) (ka : Option Addr) (kc : Nat) (j : Nat) (na : Option Addr) (nc : Nat) : Prop where
  res : Blk wr w.heap.size 30 (pat4 none 0 0 none 0 0 false 0)
  pat : Blk wr (w.heap.size + 1) 30 (pat4 ka i kc na j nc false 0)
  rk : Row wr 3 1 ka i kc (ints (patAt k0 i).1.1)
  rn : Row wr 3 1 na j nc (ints (patAt k0 j).1.2)
  dis : ∀ g, bk ka = some g → bk na ≠ some g
  ok : ∀ g, bk ka = some g → w.heap.size + 2 ≤ g
  on : ∀ g, bk na = some g → w.heap.size + 2 ≤ g
  bel : Below w.heap.size w wr
theorem PatK.size {w wr : World} {k0 : Int} {i kc j nc : Nat} {ka na : Option Addr} (h : PatK w wr k0 i ka kc j na nc) : w.heap.size + 2 ≤ wr.heap.size := by have := h.pat.lt; omega
/-- one more kind -/
theorem PatK.kind {w wr w1 : World} {k0 : Int} {i kc nc g cap : Nat} {ka na : Option Addr} {o : Obj} (h : PatK w wr k0 i ka kc i na nc)
    (hown : w1.ownsRow 0 3 1 (.slice (some ⟨g, 0, none⟩) (i + 1) cap) (i + 1) (ints (patAt k0 i).1.1 ++ [.int .i64 (65 + (patAt k0 i).2 % 3)]))
    (hg : (wr.alloc o).grownBy w1 (bk ka)) (hat : bk ka = some g ∨ g = wr.heap.size + 1) :
    Blk w1 (w.heap.size + 1) 30 (pat4 ka i kc na i nc false 0) ∧ PatK w (w1.setCell ⟨w.heap.size + 1, 0, none⟩ (.slice (some ⟨g, 0, none⟩) (i + 1) cap)) k0 (i + 1) (some ⟨g, 0, none⟩) cap i na nc := by
  have hsz := h.size
  have n0 : bk ka ≠ some w.heap.size := fun e => by have := h.ok _ e; omega
  have n1 : bk ka ≠ some (w.heap.size + 1) := fun e => by have := h.ok _ e; omega
  have hgo : w.heap.size + 2 ≤ g := by rcases hat with e | e; exact h.ok _ e; omega
  have hgn : bk na ≠ some g := by
    rcases hat with e | e
    · exact h.dis _ e
    · intro f; have := h.rn.lt f; omega
  have K1 : Kept (fun k => bk ka = some k) wr w1 := ((Kept.refl (fun k => bk ka = some k) wr).alloc o).grown hg (fun k _ e => e)
  have hb1 := (h.pat.alloc o).grown hg n1
  refine ⟨hb1, ⟨?_, ?_, ?_, ?_, ?_, ?_, h.on, ?_⟩⟩
  · exact ((h.res.alloc o).grown hg n0).other (by simp) _
  · have := hb1.set 0 (.slice (some ⟨g, 0, none⟩) (i + 1) cap)
    simpa [pat4] using this
  · have e : ints (patAt k0 (i + 1)).1.1 = ints (patAt k0 i).1.1 ++ [.int .i64 (65 + (patAt k0 i).2 % 3)] := by simp [patAt, ints]
    rw [e]
    exact Row.other (a := some ⟨g, 0, none⟩) hown (by simp [bk]; omega) _
  · exact Row.other (h.rn.kept K1 (fun k e f => h.dis k f e)) (fun e => by have := h.on _ e; omega) _
  · intro x e f
    simp only [bk, Option.map_some, Option.some.injEq] at e
    subst e; exact hgn f
  · intro x e
    simp only [bk, Option.map_some, Option.some.injEq] at e
    subst e; exact hgo
  · have b1 : Below w.heap.size w (wr.alloc o) := h.bel.alloc (by omega) o
    exact (b1.grown hg (by simp; omega) (fun k e => by have := h.ok k e; omega)).setCell (p := ⟨w.heap.size + 1, 0, none⟩) (by simp) _
/-- one more barred kind -/
theorem PatK.not {w wr w1 : World} {k0 v : Int} {i kc nc g cap : Nat} {ka na : Option Addr} {o : Obj} (h : PatK w wr k0 (i + 1) ka kc i na nc) (hv : v = if 0 < i ∧ (patAt k0 i).2 / 3 % 5 < 3 then 65 + (patAt k0 i).2 / 3 % 5 else 0)
    (hown : w1.ownsRow 0 3 1 (.slice (some ⟨g, 0, none⟩) (i + 1) cap) (i + 1) (ints (patAt k0 i).1.2 ++ [.int .i64 v]))
    (hg : (wr.alloc o).grownBy w1 (bk na)) (hat : bk na = some g ∨ g = wr.heap.size + 1) :
    Blk w1 (w.heap.size + 1) 30 (pat4 ka (i + 1) kc na i nc false 0) ∧ PatK w (w1.setCell ⟨w.heap.size + 1, 1, none⟩ (.slice (some ⟨g, 0, none⟩) (i + 1) cap)) k0 (i + 1) ka kc (i + 1) (some ⟨g, 0, none⟩) cap := by
  have hsz := h.size
  have n0 : bk na ≠ some w.heap.size := fun e => by have := h.on _ e; omega
  have n1 : bk na ≠ some (w.heap.size + 1) := fun e => by have := h.on _ e; omega
  have hgo : w.heap.size + 2 ≤ g := by rcases hat with e | e; exact h.on _ e; omega
  have hgn : bk ka ≠ some g := by
    rcases hat with e | e
    · exact fun f => h.dis _ f e
    · intro f; have := h.rk.lt f; omega
  have K1 : Kept (fun k => bk na = some k) wr w1 := ((Kept.refl (fun k => bk na = some k) wr).alloc o).grown hg (fun k _ e => e)
  have hb1 := (h.pat.alloc o).grown hg n1
  refine ⟨hb1, ⟨?_, ?_, ?_, ?_, ?_, h.ok, ?_, ?_⟩⟩
  · exact ((h.res.alloc o).grown hg n0).other (by simp) _
  · have := hb1.set 1 (.slice (some ⟨g, 0, none⟩) (i + 1) cap)
    simpa [pat4] using this
  · exact Row.other (h.rk.kept K1 (fun k e f => h.dis k e f)) (fun e => by have := h.ok _ e; omega) _
  · have e : ints (patAt k0 (i + 1)).1.2 = ints (patAt k0 i).1.2 ++ [.int .i64 v] := by simp [patAt, ints, hv]
    rw [e]
    exact Row.other (a := some ⟨g, 0, none⟩) hown (by simp [bk]; omega) _
  · intro x e f
    simp only [bk, Option.map_some, Option.some.injEq] at f
    subst f; exact hgn e
  · intro x e
    simp only [bk, Option.map_some, Option.some.injEq] at e
    subst e; exact hgo
  · have b1 : Below w.heap.size w (wr.alloc o) := h.bel.alloc (by omega) o
    exact (b1.grown hg (by simp; omega) (fun k e => by have := h.on k e; omega)).setCell (p := ⟨w.heap.size + 1, 1, none⟩) (by simp) _
theorem kept_toBelow' {S : Nat → Prop} {w a b : World} (hb : Below w.heap.size w a) (k : Kept S a b) (hS : ∀ i, S i → w.heap.size ≤ i) : Below w.heap.size w b :=
  ⟨k.os.trans hb.os, k.tape.trans hb.tape, k.output.trans hb.output, Nat.le_trans hb.size k.size, fun i hi => (k.block i (Nat.lt_of_lt_of_le hi hb.size) (fun e => by have := hS i e; omega)).trans (hb.block i hi)⟩
/-- what pattern answers -/
structure PatOut (raw : Int) (w w' : World) (ka : Option Addr) (kc : Nat) (na : Option Addr) (nc : Nat) : Prop where
  rk : Row w' 3 1 ka (patN raw) kc (ints (patKinds raw))
  rn : Row w' 3 1 na (patN raw) nc (ints (patNots raw))
  bel : Below w.heap.size w w'
  ok : ∀ g, bk ka = some g → w.heap.size ≤ g
  on : ∀ g, bk na = some g → w.heap.size ≤ g
set_option maxRecDepth 100000 in
set_option maxHeartbeats 4000000 in
theorem pattern_any (raw : Int) (w : World) (hraw : I64 raw) :
    Calls Tryd.prog 7 #[.int .i64 raw] w fun e w' => ∃ ka kc na nc, e = .returned (.agg #[.slice ka (patN raw) kc, .slice na (patN raw) nc, .bool (patIsOne raw), .int .i64 (patWindow raw)]) ∧ PatOut raw w w' ka kc na nc := by
  obtain ⟨i0, hi0, hz0, hz1, hz2⟩ := info_parts Tryd.infoInt
  obtain ⟨k, HK⟩ := hex (pk raw 1125899906842624)
  have hk0 : 0 ≤ k ∧ k < 1125899906842624 := by rw [HK.out]; exact pk_range (by omega)
  have HN : Hid (patN raw = (k % 4).toNat ∧ patK0 raw = k / 4) := by show _ ∧ _; rw [HK.out]; exact ⟨rfl, rfl⟩
  have hpk : ∀ u, Calls Tryd.prog 10 #[.int .i64 raw, .int .i64 1125899906842624] u fun e w' => e = .returned (.int .i64 k) ∧ u = w' := fun u => by rw [HK.out]; exact pick_any raw 1125899906842624 u hraw (by omega) (by omega)
  clear HK
  obtain ⟨n, HNn⟩ := hex (patN raw)
  have hn : (n : Int) = k % 4 := by rw [HNn.out, HN.out.1]; omega
  obtain ⟨k0, HK0⟩ := hex (patK0 raw)
  have hk0' : k0 = k / 4 := by rw [HK0.out, HN.out.2]
  have hk0r : 0 ≤ k0 ∧ k0 ≤ 1125899906842624 := by omega
  have hpos := fun i => patAt_pos hk0r i
  have m4 : k.tmod 4 = n := by rw [Int.tmod_eq_emod_of_nonneg (by omega)]; omega
  have d4 : k.tdiv 4 = k0 := by rw [Int.tdiv_eq_ediv_of_nonneg (by omega)]; omega
  have wn : IntKind.i64.wrap (n : Int) = n := by rw [IntKind.wrap_i64]; omega
  have wk : IntKind.i64.wrap k0 = k0 := by rw [IntKind.wrap_i64]; omega
  go_enter Tryd.func7, Tryd.ntmps7
  go_wp2_with (go_at_call 10; refine (hpk _).mono ?_; rintro e w' ⟨rfl, rfl⟩)
  clear m4 d4 wn wk hpk
  go_loopw [3, 6] (fun kv iv wr => ∃ (i : Nat) (ka : Option Addr) (kc : Nat) (na : Option Addr) (nc : Nat), i ≤ n ∧ kv = .int .i64 (patAt k0 i).2 ∧ iv = .int .i64 i ∧ PatK w wr k0 i ka kc i na nc) (fun _ iv _ => n - (intOf iv).toNat)
  case atStart =>
    refine ⟨0, none, 0, none, 0, Nat.zero_le _, by show Value.int _ (k / 4) = Value.int _ k0; rw [hk0'], rfl, ⟨?_, ?_, by simpa [patAt, ints] using Row.nil _ _ _, by simpa [patAt, ints] using Row.nil _ _ _, (fun g e => by cases e), (fun g e => by cases e), (fun g e => by cases e), ?_⟩⟩
    · exact (blk_alloc _ _ _).alloc _
    · have := blk_alloc (w.alloc (.cells (pat4 none 0 0 none 0 0 false 0).toArray 30)) (pat4 none 0 0 none 0 0 false 0) 30
      simpa [pat4] using this
    · exact ((Below.refl _ _).alloc (Nat.le_refl _) _).alloc (by simp) _
  case round =>
    obtain ⟨i, ka, kc, na, nc, hin, rfl, rfl, hpk⟩ := hrel
    have HP : Hid (PatK w wr k0 i ka kc i na nc) := hpk
    clear hpk
    have hp := hpos i
    obtain ⟨kk, HKK⟩ := hex (patAt k0 i).2
    rw [← HKK.out] at hp ⊢
    have p0 := HP.out.pat.cell 0
    have p1 := HP.out.pat.cell 1
    simp only [pat4, List.getElem?_cons_zero, List.getElem?_cons_succ] at p0 p1
    by_cases hlt : i < n
    · have hlt' : (i : Int) < (n : Int) := by omega
      have m3 : kk.tmod 3 = kk % 3 := Int.tmod_eq_emod_of_nonneg (by omega)
      have d3 : kk.tdiv 3 = kk / 3 := Int.tdiv_eq_ediv_of_nonneg (by omega)
      have m5 : (kk / 3).tmod 5 = kk / 3 % 5 := Int.tmod_eq_emod_of_nonneg (by omega)
      have d5 : (kk / 3).tdiv 5 = kk / 3 / 5 := Int.tdiv_eq_ediv_of_nonneg (by omega)
      have w1' : IntKind.i64.wrap (65 + kk % 3) = 65 + kk % 3 := by rw [IntKind.wrap_i64]; omega
      have w2' : IntKind.i64.wrap (kk % 3) = kk % 3 := by rw [IntKind.wrap_i64]; omega
      have w3' : IntKind.i64.wrap (kk / 3) = kk / 3 := by rw [IntKind.wrap_i64]; omega
      have w4' : IntKind.i64.wrap (kk / 3 % 5) = kk / 3 % 5 := by rw [IntKind.wrap_i64]; omega
      have w5' : IntKind.i64.wrap (65 + kk / 3 % 5) = 65 + kk / 3 % 5 := by rw [IntKind.wrap_i64]; omega
      have w6' : IntKind.i64.wrap (kk / 3 / 5) = kk / 3 / 5 := by rw [IntKind.wrap_i64]; omega
      have HRow : Hid (Row wr 3 1 ka i kc (ints (patAt k0 i).1.1)) := HP.out.rk
      have fz0 := HP.out.pat.frozen 0
      have hsz := HP.out.size
      have hn3 : n ≤ 3 := by omega
      go_upto_region 9 with (at_builtin; refine wpList_append_lies _ rfl _ _ _ rfl 0 3 i0 _ 1 8 Tryd.underlying28 hi0 hz0 hz1 hz2 rfl (by omega) (.slice ka i kc) i (ints (patAt k0 i).1.1) rfl (ownsRow_of_heap HRow.out (fun j hj => Below.heap_alloc _ _ _ hj)) ⟨wr.heap.size, 0, none⟩ 1 1 [.int .i64 (65 + kk % 3)] rfl rfl (news_new _ _ (by simp) [.int .i64 (65 + kk % 3)] 3) (by simp [Value.oneCell']) (by omega) (by unfold maxLen; omega) (by omega) (by simp) (wr.heap.size + 1) (by simp) ?_; intro g2 cap w1 hown1 hgrow hat hlt1; rw [bk_own] at hgrow hat; have HG : Hid (Blk w1 (w.heap.size + 1) 30 (pat4 ka i kc na i nc false 0) ∧ PatK w (w1.setCell ⟨w.heap.size + 1, 0, none⟩ (.slice (some ⟨g2, 0, none⟩) (i + 1) cap)) k0 (i + 1) (some ⟨g2, 0, none⟩) cap i na nc) := HP.out.kind (by rw [← HKK.out]; exact hown1) hgrow hat; have e6' := HG.out.1.cell 0; have fz6' := HG.out.1.frozen 0; simp only [pat4, List.getElem?_cons_succ, List.getElem?_cons_zero] at e6')
      have HQ : Hid (PatK w (w1.setCell ⟨w.heap.size + 1, 0, none⟩ (.slice (some ⟨g2, 0, none⟩) (i + 1) cap)) k0 (i + 1) (some ⟨g2, 0, none⟩) cap i na nc) := HG.out.2
      clear HG e6' fz6' hown1 hgrow hat hlt1 HRow p0 p1 fz0 HP
      generalize w1.setCell ⟨w.heap.size + 1, 0, none⟩ (.slice (some ⟨g2, 0, none⟩) (i + 1) cap) = wq at *
      have HRn : Hid (Row wq 3 1 na i nc (ints (patAt k0 i).1.2)) := HQ.out.rn
      have p1 := HQ.out.pat.cell 1
      simp only [pat4, List.getElem?_cons_zero, List.getElem?_cons_succ] at p1
      have hszq := HQ.out.size
      have fin : ∀ v : Int, Hid (v = if 0 < i ∧ (patAt k0 i).2 / 3 % 5 < 3 then 65 + (patAt k0 i).2 / 3 % 5 else 0) → ∀ (g : Nat) (cp : Nat) (wz : World), wz.ownsRow 0 3 1 (.slice (some ⟨g, 0, none⟩) (i + 1) cp) (i + 1) (ints (patAt k0 i).1.2 ++ [.int .i64 v]) → (wq.alloc (.cells #[.int .i64 v] 3)).grownBy wz (bk na) → (bk na = some g ∨ g = wq.heap.size + 1) →
          Blk wz (w.heap.size + 1) 30 (pat4 (some ⟨g2, 0, none⟩) (i + 1) cap na i nc false 0) ∧ PatK w (wz.setCell ⟨w.heap.size + 1, 1, none⟩ (.slice (some ⟨g, 0, none⟩) (i + 1) cp)) k0 (i + 1) (some ⟨g2, 0, none⟩) cap (i + 1) (some ⟨g, 0, none⟩) cp := fun v hv g cp wz h1 h2 h3 => HQ.out.not hv.out h1 h2 h3
      have HFin := fin
      clear fin
      have hnext : Hid ((patAt k0 (i + 1)).2 = kk / 3 / 5) := by show _ = _; rw [HKK.out]; rfl
      have two : ∀ v : Int, Hid (v = if 0 < i ∧ kk / 3 % 5 < 3 then 65 + kk / 3 % 5 else 0) → Hid (v = if 0 < i ∧ (patAt k0 i).2 / 3 % 5 < 3 then 65 + (patAt k0 i).2 / 3 % 5 else 0) := fun v h => by show _ = _; rw [← HKK.out]; exact h.out
      by_cases hi0' : 0 < i
      · have hip : (0 : Int) < (i : Int) := by omega
        by_cases h5 : kk / 3 % 5 < 3
        · have HV : Hid ((65 + kk / 3 % 5) = if 0 < i ∧ kk / 3 % 5 < 3 then 65 + kk / 3 % 5 else 0) := by show _ = _; rw [if_pos ⟨hi0', h5⟩]
          go_wp2_with (at_builtin; refine wpList_append_lies _ rfl _ _ _ rfl 0 3 i0 _ 1 8 Tryd.underlying28 hi0 hz0 hz1 hz2 rfl (by omega) (.slice na i nc) i (ints (patAt k0 i).1.2) rfl (ownsRow_of_heap HRn.out (fun j hj => Below.heap_alloc _ _ _ hj)) ⟨wq.heap.size, 0, none⟩ 1 1 [.int .i64 (65 + kk / 3 % 5)] rfl rfl (news_new _ _ (by simp) [.int .i64 (65 + kk / 3 % 5)] 3) (by simp [Value.oneCell']) (by omega) (by unfold maxLen; omega) (by omega) (by simp) (wq.heap.size + 1) (by simp) ?_; intro g3 cp wz hown1 hgrow hat hlt1; rw [bk_own] at hgrow hat; have HG := HFin _ (two _ HV) g3 cp wz hown1 hgrow hat; have e6' := HG.1.cell 1; have fz6' := HG.1.frozen 1; simp only [pat4, List.getElem?_cons_succ, List.getElem?_cons_zero] at e6')
          go_roundw
          case rel => exact ⟨i + 1, _, _, _, _, by omega, by rw [hnext.out], by go_num, HG.2⟩
          case measure => simp [intOf]; omega
        · have HV : Hid ((0 : Int) = if 0 < i ∧ kk / 3 % 5 < 3 then 65 + kk / 3 % 5 else 0) := by show _ = _; rw [if_neg (by omega)]
          go_wp2_with (at_builtin; refine wpList_append_lies _ rfl _ _ _ rfl 0 3 i0 _ 1 8 Tryd.underlying28 hi0 hz0 hz1 hz2 rfl (by omega) (.slice na i nc) i (ints (patAt k0 i).1.2) rfl (ownsRow_of_heap HRn.out (fun j hj => Below.heap_alloc _ _ _ hj)) ⟨wq.heap.size, 0, none⟩ 1 1 [.int .i64 (0)] rfl rfl (news_new _ _ (by simp) [.int .i64 (0)] 3) (by simp [Value.oneCell']) (by omega) (by unfold maxLen; omega) (by omega) (by simp) (wq.heap.size + 1) (by simp) ?_; intro g3 cp wz hown1 hgrow hat hlt1; rw [bk_own] at hgrow hat; have HG := HFin _ (two _ HV) g3 cp wz hown1 hgrow hat; have e6' := HG.1.cell 1; have fz6' := HG.1.frozen 1; simp only [pat4, List.getElem?_cons_succ, List.getElem?_cons_zero] at e6')
          go_roundw
          case rel => exact ⟨i + 1, _, _, _, _, by omega, by rw [hnext.out], by go_num, HG.2⟩
          case measure => simp [intOf]; omega
      · have hip : ¬ (0 : Int) < (i : Int) := by omega
        have HV : Hid ((0 : Int) = if 0 < i ∧ kk / 3 % 5 < 3 then 65 + kk / 3 % 5 else 0) := by show _ = _; rw [if_neg (by omega)]
        go_wp2_with (at_builtin; refine wpList_append_lies _ rfl _ _ _ rfl 0 3 i0 _ 1 8 Tryd.underlying28 hi0 hz0 hz1 hz2 rfl (by omega) (.slice na i nc) i (ints (patAt k0 i).1.2) rfl (ownsRow_of_heap HRn.out (fun j hj => Below.heap_alloc _ _ _ hj)) ⟨wq.heap.size, 0, none⟩ 1 1 [.int .i64 (0)] rfl rfl (news_new _ _ (by simp) [.int .i64 (0)] 3) (by simp [Value.oneCell']) (by omega) (by unfold maxLen; omega) (by omega) (by simp) (wq.heap.size + 1) (by simp) ?_; intro g3 cp wz hown1 hgrow hat hlt1; rw [bk_own] at hgrow hat; have HG := HFin _ (two _ HV) g3 cp wz hown1 hgrow hat; have e6' := HG.1.cell 1; have fz6' := HG.1.frozen 1; simp only [pat4, List.getElem?_cons_succ, List.getElem?_cons_zero] at e6')
        go_roundw
        case rel => exact ⟨i + 1, _, _, _, _, by omega, by rw [hnext.out], by go_num, HG.2⟩
        case measure => simp [intOf]; omega
    · obtain rfl : i = n := by omega
      have hge : ¬ (i : Int) < k % 4 := by omega
      have m2 : kk.tmod 2 = kk % 2 := Int.tmod_eq_emod_of_nonneg (by omega)
      have d2 : kk.tdiv 2 = kk / 2 := Int.tdiv_eq_ediv_of_nonneg (by omega)
      have w2' : IntKind.i64.wrap (kk % 2) = kk % 2 := by rw [IntKind.wrap_i64]; omega
      have w3' : IntKind.i64.wrap (kk / 2) = kk / 2 := by rw [IntKind.wrap_i64]; omega
      have hR : patRest raw = kk := by unfold patRest; rw [← HNn.out, ← HK0.out, ← HKK.out]
      have p2 := HP.out.pat.cell 2
      have p3 := HP.out.pat.cell 3
      simp only [pat4, List.getElem?_cons_zero, List.getElem?_cons_succ] at p2 p3
      have f2 := HP.out.pat.frozen 2
      have f3 := HP.out.pat.frozen 3
      have r0 := HP.out.res.cell 0
      have r1 := HP.out.res.cell 1
      have r2 := HP.out.res.cell 2
      have r3 := HP.out.res.cell 3
      simp only [pat4, List.getElem?_cons_zero, List.getElem?_cons_succ] at r0 r1 r2 r3
      have g0 := HP.out.res.frozen 0
      have g1 := HP.out.res.frozen 1
      have g2 := HP.out.res.frozen 2
      have g3 := HP.out.res.frozen 3
      have hno : w.heap.size ≠ w.heap.size + 1 := by omega
      have HR : Hid (patRest raw = kk) := hR
      have HNi : Hid (i = patN raw) := HNn.out
      clear hR
      have hfin : Hid (∀ (wz : World), Kept (fun k => k = w.heap.size ∨ k = w.heap.size + 1) wr wz → PatOut raw w wz ka kc na nc) := by
        intro wz hz
        have hsz := HP.out.size
        refine ⟨?_, ?_, ?_, fun g e => by have := HP.out.ok g e; omega, fun g e => by have := HP.out.on g e; omega⟩
        · have h1 : Row wz 3 1 ka i kc (ints (patAt k0 i).1.1) := HP.out.rk.kept hz (fun k e f => by have := HP.out.ok k e; omega)
          rw [HK0.out, HNi.out] at h1; exact h1
        · have h1 : Row wz 3 1 na i nc (ints (patAt k0 i).1.2) := HP.out.rn.kept hz (fun k e f => by have := HP.out.on k e; omega)
          rw [HK0.out, HNi.out] at h1; exact h1
        · exact kept_toBelow' HP.out.bel hz (fun k e => by omega)
      have HBp : Hid (Blk ((wr.setCell ⟨w.heap.size + 1, 2, none⟩ (.bool (kk % 2 == 1))).setCell ⟨w.heap.size + 1, 3, none⟩ (.int .i64 (kk / 2))) (w.heap.size + 1) 30 (pat4 ka i kc na i nc (kk % 2 == 1) (kk / 2))) := by
        have := (HP.out.pat.set 2 (.bool (kk % 2 == 1))).set 3 (.int .i64 (kk / 2))
        exact this
      have HBr : Hid (Blk ((wr.setCell ⟨w.heap.size + 1, 2, none⟩ (.bool (kk % 2 == 1))).setCell ⟨w.heap.size + 1, 3, none⟩ (.int .i64 (kk / 2))) w.heap.size 30 (pat4 none 0 0 none 0 0 false 0)) := (HP.out.res.other (by simp) _).other (by simp) _
      have HKz : Hid (Kept (fun k => k = w.heap.size ∨ k = w.heap.size + 1) wr ((wr.setCell ⟨w.heap.size + 1, 2, none⟩ (.bool (kk % 2 == 1))).setCell ⟨w.heap.size + 1, 3, none⟩ (.int .i64 (kk / 2)))) := ((Kept.refl _ wr).setCell (fun _ => Or.inr rfl) _).setCell (fun _ => Or.inr rfl) _
      go_upto_region 17 with fail
      clear p0 p1 p2 p3 f2 f3 r0 r1 r2 r3 g0 g1 g2 g3
      generalize (wr.setCell ⟨w.heap.size + 1, 2, none⟩ (.bool (kk % 2 == 1))).setCell ⟨w.heap.size + 1, 3, none⟩ (.int .i64 (kk / 2)) = wx at *
      have e1 : patIsOne raw = (kk % 2 == 1) := by unfold patIsOne; rw [HR.out]; rfl
      have p3 := HBp.out.cell 3
      have f3 := HBp.out.frozen 3
      simp only [pat4, List.getElem?_cons_zero, List.getElem?_cons_succ] at p3
      have E1 : Hid (patIsOne raw = (kk % 2 == 1)) := e1
      clear e1
      by_cases hw : 1099511627776 < kk / 2
      · have HBp2 : Hid (Blk (wx.setCell ⟨w.heap.size + 1, 3, none⟩ (.int .i64 1099511627776)) (w.heap.size + 1) 30 (pat4 ka i kc na i nc (kk % 2 == 1) 1099511627776)) := by
          have := HBp.out.set 3 (.int .i64 1099511627776)
          exact this
        have HBr2 : Hid (Blk (wx.setCell ⟨w.heap.size + 1, 3, none⟩ (.int .i64 1099511627776)) w.heap.size 30 (pat4 none 0 0 none 0 0 false 0)) := HBr.out.other (by simp) _
        have HKz2 : Hid (Kept (fun k => k = w.heap.size ∨ k = w.heap.size + 1) wr (wx.setCell ⟨w.heap.size + 1, 3, none⟩ (.int .i64 1099511627776))) := HKz.out.setCell (fun _ => Or.inr rfl) _
        have E2 : Hid (patWindow raw = 1099511627776) := by show _ = _; unfold patWindow; rw [HR.out, if_pos hw]
        go_upto_region 19 with fail
        clear p3 f3 HBp HBr HKz
        generalize wx.setCell ⟨w.heap.size + 1, 3, none⟩ (.int .i64 1099511627776) = wy at *
        have p0 := HBp2.out.cell 0
        have p1 := HBp2.out.cell 1
        have p2 := HBp2.out.cell 2
        have p3 := HBp2.out.cell 3
        have r0 := HBr2.out.cell 0
        have r1 := HBr2.out.cell 1
        have r2 := HBr2.out.cell 2
        have r3 := HBr2.out.cell 3
        simp only [pat4, List.getElem?_cons_zero, List.getElem?_cons_succ] at p0 p1 p2 p3 r0 r1 r2 r3
        have g0 := HBr2.out.frozen 0
        have g1 := HBr2.out.frozen 1
        have g2 := HBr2.out.frozen 2
        have g3 := HBr2.out.frozen 3
        go_wp2
        refine bodyPost_ret (v := .agg #[.slice ka i kc, .slice na i nc, .bool (kk % 2 == 1), .int .i64 (1099511627776)]) (by simp [results, Tryd.results7, go_sem, r0, r1, r2, r3]) rfl ⟨ka, kc, na, nc, by rw [E1.out, E2.out, ← HNi.out], hfin.out _ ?_⟩
        exact (((HKz2.out.setCell (fun _ => Or.inl rfl) _).setCell (fun _ => Or.inl rfl) _).setCell (fun _ => Or.inl rfl) _).setCell (fun _ => Or.inl rfl) _
      · have E2 : Hid (patWindow raw = kk / 2) := by show _ = _; unfold patWindow; rw [HR.out, if_neg hw]
        have HBp2 := HBp
        have HBr2 := HBr
        have HKz2 := HKz
        go_upto_region 19 with fail
        clear p3 f3 HBp HBr HKz
        have p0 := HBp2.out.cell 0
        have p1 := HBp2.out.cell 1
        have p2 := HBp2.out.cell 2
        have p3 := HBp2.out.cell 3
        have r0 := HBr2.out.cell 0
        have r1 := HBr2.out.cell 1
        have r2 := HBr2.out.cell 2
        have r3 := HBr2.out.cell 3
        simp only [pat4, List.getElem?_cons_zero, List.getElem?_cons_succ] at p0 p1 p2 p3 r0 r1 r2 r3
        have g0 := HBr2.out.frozen 0
        have g1 := HBr2.out.frozen 1
        have g2 := HBr2.out.frozen 2
        have g3 := HBr2.out.frozen 3
        go_wp2
        refine bodyPost_ret (v := .agg #[.slice ka i kc, .slice na i nc, .bool (kk % 2 == 1), .int .i64 (kk / 2)]) (by simp [results, Tryd.results7, go_sem, r0, r1, r2, r3]) rfl ⟨ka, kc, na, nc, by rw [E1.out, E2.out, ← HNi.out], hfin.out _ ?_⟩
        exact (((HKz2.out.setCell (fun _ => Or.inl rfl) _).setCell (fun _ => Or.inl rfl) _).setCell (fun _ => Or.inl rfl) _).setCell (fun _ => Or.inl rfl) _
end Go.Proofs.YtghcololkgeoeabDoor
