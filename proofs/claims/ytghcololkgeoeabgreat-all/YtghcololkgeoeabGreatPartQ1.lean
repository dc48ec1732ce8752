import Derived.Test.YtghcololkgeoeabGreatPartQ0
import Derived.Test.YtghcololkgeoeabGreatPartN0
namespace Go.Proofs.YtghcololkgeoeabGreat
open Go.RowKit
set_option linter.unusedVariables false
set_option linter.unusedSimpArgs false
attribute [local go_sem ↓] Go.wp_at_zero Go.wp_at_succ

def kdL : Kd := ⟨127, 107, 36, 3, 1, fun _ V _ v => ∃ g ∈ V, v = .slice (some ⟨g, 0, none⟩) 1 1, fun i => .int .i64 (-7000 - (i : Int))⟩
theorem ownL_info : (Tryz.prog.info? 127).map (fun i => (i.zero, i.size, i.bytes)) = some (some (.agg #[.slice none 0 0]), 1, 24) := by kernel_rfl
theorem ownL_sl : (Tryz.prog.info? 36).map (fun i => (i.zero, i.size, i.bytes)) = some (some (.slice none 0 0), 1, 24) := by kernel_rfl
def oneS (g : Nat) : Value := .slice (some ⟨g, 0, none⟩) 1 1
def listS (n : Nat) (m : Nat × Nat) : Value := .slice (some ⟨m.1, 0, none⟩) n m.2
structure OL (w wr : World) (wb : Nat) (xv rv ev : Value) (ia : Option Addr) (il : List E1) (a : Option Addr) (c : Nat) (l : List E1) (sa : Option Addr) (sc : Nat) (ms : List (Nat × Nat)) (n : Nat) (F : List (List Nat)) (H : Nat) (EE : Int) (k : Nat) (ja : Option Addr) (jc : Nat) (jl : List E1) (V : List Nat) : Prop where
  blk : Blk wr wb 51 [xv, rv, ev, .slice ja jl.length jc, .slice a l.length c]
  li : Lists1 wr kdI ja jc jl
  lo : Lists1 wr kdL a c l
  len : jl.length = il.length + k
  row : Row wr 36 1 sa ms.length sc (V.map oneS ++ (ms.drop k).map (listS n))
  vlen : V.length = k
  vin : ∀ g ∈ V, Blk wr g 3 [.int .i64 EE] ∧ w.heap.size ≤ g ∧ bk ja ≠ some g
  rest : ∀ j m f, k ≤ j → ms[j]? = some m → F[j]? = some f → Row wr 3 1 (some ⟨m.1, 0, none⟩) n m.2 (natV f)
  kept : Kept (fun x => x = wb ∨ bk ia = some x ∨ H ≤ x) w wr
  ja1 : ∀ x, bk ja = some x → bk ia = some x ∨ w.heap.size ≤ x
  ja2 : ∀ x, bk ja = some x → some x ∉ fp1 jl
  jl1 : ∀ x, some x ∈ fp1 jl → some x ∈ fp1 il ∨ (∃ j m, j < k ∧ ms[j]? = some m ∧ m.1 = x) ∨ w.heap.size ≤ x
structure OLd (w : World) (wb : Nat) (ia : Option Addr) (il : List E1) (a : Option Addr) (l : List E1) (H : Nat) : Prop where
  hH : H ≤ w.heap.size
  wl : wb < H
  lo : ∀ x, (bk ia = some x ∨ some x ∈ fp1 il ∨ bk a = some x ∨ some x ∈ fp1 l) → x < H ∧ x ≠ wb
  ii : ∀ x, bk ia = some x → some x ∉ fp1 il ∧ bk a ≠ some x ∧ some x ∉ fp1 l
  aa : ∀ x, bk a = some x → some x ∉ fp1 il ∧ some x ∉ fp1 l
def OwnedL (w w' : World) (wb : Nat) (xv rv ev : Value) (ia : Option Addr) (il : List E1) (a : Option Addr) (l : List E1) (H : Nat) (m : Nat) : Prop := ∃ ja jc jl a' c' E,
  Blk w' wb 51 [xv, rv, ev, .slice ja jl.length jc, .slice a' (l.length + 1) c'] ∧ Lists1 w' kdI ja jc jl ∧ Lists1 w' kdL a' c' (l ++ [E]) ∧ jl.length = il.length + m ∧ Kept (fun x => x = wb ∨ bk ia = some x ∨ bk a = some x ∨ H ≤ x) w w' ∧
  (∀ x, bk ja = some x → bk ia = some x ∨ w.heap.size ≤ x) ∧ (∀ x, bk ja = some x → some x ∉ fp1 jl ∧ bk a' ≠ some x ∧ some x ∉ fp1 (l ++ [E])) ∧ (∀ x, some x ∈ fp1 jl → some x ∈ fp1 il ∨ H ≤ x) ∧
  (∀ x, bk a' = some x → bk a = some x ∨ w.heap.size ≤ x) ∧ (∀ x, bk a' = some x → some x ∉ fp1 jl ∧ some x ∉ fp1 (l ++ [E])) ∧ (∀ x, some x ∈ E.fp → H ≤ x)
theorem OL.next {w wr w1 : World} {wb : Nat} {xv rv ev : Value} {ia : Option Addr} {il : List E1} {a : Option Addr} {c : Nat} {l : List E1} {sa : Option Addr} {sc : Nat} {ms : List (Nat × Nat)} {n : Nat} {F : List (List Nat)} {H : Nat} {EE : Int} {k : Nat} {ja : Option Addr} {jc : Nat} {jl : List E1} {V : List Nat} {g0 : Nat} {m : Nat × Nat}
    (h : OL w wr wb xv rv ev ia il a c l sa sc ms n F H EE k ja jc jl V) (d : OLd w wb ia il a l H) (hp : PD (bk sa :: ms.map fun m => some m.1)) (hup : ∀ x, some x ∈ (bk sa :: ms.map fun m => some m.1) → H ≤ x ∧ x < w.heap.size) (hsa : sa = some ⟨g0, 0, none⟩) (hk : k < ms.length) (hm : ms[k]? = some m)
    (ho : Owned1 kdI wr w1 wb 51 [xv, rv, ev, .slice ja jl.length jc, .slice a l.length c] 3 ja (some ⟨m.1, 0, none⟩) [] jl) :
    ∃ ja' jc' jl', OL w ((w1.alloc (.cells #[.int .i64 EE] 3)).setCell ⟨g0, k, none⟩ (.slice (some ⟨w1.heap.size, 0, none⟩) 1 1)) wb xv rv ev ia il a c l sa sc ms n F H EE (k + 1) ja' jc' jl' (V ++ [w1.heap.size]) := by
  obtain ⟨ja', jc', E, hB, hL, hK, hE, hja, hja2⟩ := ho
  have hmk : some m.1 ∈ (bk sa :: ms.map fun m => some m.1) := by simp only [List.mem_cons, List.mem_map]; exact Or.inr ⟨m, List.mem_of_getElem? hm, rfl⟩
  have hm1 := hup _ hmk
  have hg0 := hup g0 (by simp [hsa, bk])
  have hkk : ∀ (j : Nat) (m' : Nat × Nat), ms[j]? = some m' → (bk sa :: ms.map fun m => some m.1)[j + 1]? = some (some m'.1) := fun j m' hj => by simp [hj]
  have hg0m : ∀ (j : Nat) (m' : Nat × Nat), ms[j]? = some m' → m'.1 ≠ g0 := fun j m' hj e => by
    have := hp 0 (j + 1) g0 (by simp [hsa, bk]) (by rw [hkk j m' hj, e]); omega
  have hsz := h.kept.size
  have hs1 := hK.size
  have hH := d.hH
  have hwl := d.wl
  have hal : Kept (fun x => x = wb ∨ bk ja = some x ∨ x = m.1 ∨ x = g0) wr ((w1.alloc (.cells #[.int .i64 EE] 3)).setCell ⟨g0, k, none⟩ (.slice (some ⟨w1.heap.size, 0, none⟩) 1 1)) :=
    ((hK.mono (fun x _ e => by rcases e with e | e | e <;> simp_all [bk])).alloc _).setCell (fun _ => Or.inr (Or.inr (Or.inr rfl))) _
  have h1 : Kept (fun x => x = g0) w1 ((w1.alloc (.cells #[.int .i64 EE] 3)).setCell ⟨g0, k, none⟩ (.slice (some ⟨w1.heap.size, 0, none⟩) 1 1)) := ((Kept.refl (fun x => x = g0) w1).alloc _).setCell (fun _ => rfl) _
  have hjg : bk ja' ≠ some g0 := by
    intro e
    rcases hja _ e with f | f
    · rcases h.ja1 _ f with g | g
      · have := (d.lo g0 (Or.inl g)).1; omega
      · omega
    · omega
  have hjl : ∀ x, some x ∈ fp1 (jl ++ [E]) → some x ∈ fp1 il ∨ (∃ j m', j < k + 1 ∧ ms[j]? = some m' ∧ m'.1 = x) ∨ w.heap.size ≤ x := by
    intro x hx
    simp only [fp1, List.flatMap_append, List.mem_append, List.flatMap_cons, List.flatMap_nil, List.append_nil] at hx
    rcases hx with hx | hx
    · rcases h.jl1 x hx with e | ⟨j, m', h1, h2, h3⟩ | e
      · exact Or.inl e
      · exact Or.inr (Or.inl ⟨j, m', by omega, h2, h3⟩)
      · exact Or.inr (Or.inr e)
    · rcases hE x hx with e | e | e
      · simp only [bk, Option.map_some, Option.some.injEq] at e
        exact Or.inr (Or.inl ⟨k, m, by omega, hm, e⟩)
      · cases e
      · exact Or.inr (Or.inr (by omega))
  have hgl : some g0 ∉ fp1 (jl ++ [E]) := by
    intro e
    rcases hjl _ e with f | ⟨j, m', _, hj, f⟩ | f
    · have := (d.lo g0 (Or.inr (Or.inl f))).1; omega
    · exact hg0m j m' hj f
    · omega
  refine ⟨ja', jc', jl ++ [E], ⟨?_, ?_, ?_, ?_, ?_, ?_, ?_, ?_, ?_, ?_, ?_, ?_⟩⟩
  · have hB' := hB.kept h1 (by intro e; omega)
    simpa using hB'
  · exact hL.kept h1 (fun x e f => hjg (by rw [e, f])) (fun x e f => hgl (by rw [← f]; exact e))
  · refine h.lo.kept hal (fun x e f => ?_) (fun x e f => ?_)
    · rcases f with f | f | f | f
      · exact (d.lo x (Or.inr (Or.inr (Or.inl e)))).2 f
      · rcases h.ja1 x f with g | g
        · exact (d.ii x g).2.1 e
        · have := (d.lo x (Or.inr (Or.inr (Or.inl e)))).1; omega
      · have := (d.lo x (Or.inr (Or.inr (Or.inl e)))).1; omega
      · have := (d.lo x (Or.inr (Or.inr (Or.inl e)))).1; omega
    · rcases f with f | f | f | f
      · exact (d.lo x (Or.inr (Or.inr (Or.inr e)))).2 f
      · rcases h.ja1 x f with g | g
        · exact (d.ii x g).2.2 e
        · have := (d.lo x (Or.inr (Or.inr (Or.inr e)))).1; omega
      · have := (d.lo x (Or.inr (Or.inr (Or.inr e)))).1; omega
      · have := (d.lo x (Or.inr (Or.inr (Or.inr e)))).1; omega
  · simp [h.len]; omega
  · have hr : Row w1 36 1 sa ms.length sc (V.map oneS ++ (ms.drop k).map (listS n)) := by
      refine h.row.kept hK (fun x e f => ?_)
      rw [hsa] at e
      simp only [bk, Option.map_some, Option.some.injEq] at e
      subst e
      rcases f with f | f | f
      · omega
      · rcases h.ja1 _ f with g | g
        · have := (d.lo _ (Or.inl g)).1; omega
        · omega
      · simp only [bk, Option.map_some, Option.some.injEq] at f
        exact hg0m k m hm f
    have hr2 : Row (w1.alloc (.cells #[.int .i64 EE] 3)) 36 1 sa ms.length sc (V.map oneS ++ (ms.drop k).map (listS n)) := hr.kept ((Kept.refl (fun _ => False) w1).alloc _) (fun _ _ e => e)
    rw [hsa] at hr2 ⊢
    have hr3 := hr2.set k (.slice (some ⟨w1.heap.size, 0, none⟩) 1 1)
    have e : (V.map oneS ++ (ms.drop k).map (listS n)).set k (.slice (some ⟨w1.heap.size, 0, none⟩) 1 1) = (V ++ [w1.heap.size]).map oneS ++ (ms.drop (k + 1)).map (listS n) := by
      rw [List.set_append_right _ _ (by simp [h.vlen]), List.length_map, h.vlen, Nat.sub_self, List.drop_eq_getElem_cons hk, List.map_cons, List.set_cons_zero, List.map_append]
      simp [oneS]
    rw [e] at hr3
    exact hr3
  · simp [h.vlen]
  · intro g hg
    simp only [List.mem_append, List.mem_singleton] at hg
    rcases hg with hg | rfl
    · obtain ⟨b1, b2, b3⟩ := h.vin g hg
      have hlt := b1.lt
      refine ⟨b1.kept hal (fun f => ?_), b2, fun f => ?_⟩
      · rcases f with f | f | f | f
        · omega
        · exact b3 f
        · omega
        · omega
      · rcases hja _ f with f | f
        · exact b3 f
        · omega
    · refine ⟨?_, by omega, fun f => ?_⟩
      · have := (blk_alloc w1 [.int .i64 EE] 3).other (a := ⟨g0, k, none⟩) (by simp only; omega) (.slice (some ⟨w1.heap.size, 0, none⟩) 1 1)
        exact this
      · have := hL.row.lt f; omega
  · intro j m' f hj hm' hf
    refine (h.rest j m' f (by omega) hm' hf).kept hal (fun x e f' => ?_)
    simp only [bk, Option.map_some, Option.some.injEq] at e
    subst e
    have hmj := hup m'.1 (by simp only [List.mem_cons, List.mem_map]; exact Or.inr ⟨m', List.mem_of_getElem? hm', rfl⟩)
    rcases f' with f' | f' | f' | f'
    · omega
    · rcases h.ja1 _ f' with g | g
      · have := (d.lo _ (Or.inl g)).1; omega
      · omega
    · have := hp (j + 1) (k + 1) m.1 (by rw [hkk j m' hm', f']) (hkk k m hm); omega
    · exact hg0m j m' hm' f'
  · refine h.kept.trans' hal (fun x hx e => ?_)
    rcases e with e | e | e | e
    · exact Or.inl e
    · rcases h.ja1 _ e with g | g
      · exact Or.inr (Or.inl g)
      · omega
    · exact Or.inr (Or.inr (by omega))
    · exact Or.inr (Or.inr (by omega))
  · intro x e
    rcases hja x e with f | f
    · exact h.ja1 x f
    · right; omega
  · exact hja2
  · exact hjl
theorem OL.close {w wr w' : World} {wb : Nat} {xv rv ev : Value} {ia : Option Addr} {il : List E1} {a : Option Addr} {c : Nat} {l : List E1} {sa : Option Addr} {sc : Nat} {ms : List (Nat × Nat)} {n : Nat} {F : List (List Nat)} {H : Nat} {EE : Int} {ja : Option Addr} {jc : Nat} {jl : List E1} {V : List Nat}
    (h : OL w wr wb xv rv ev ia il a c l sa sc ms n F H EE ms.length ja jc jl V) (d : OLd w wb ia il a l H) (hp : PD (bk sa :: ms.map fun m => some m.1)) (hup : ∀ x, some x ∈ (bk sa :: ms.map fun m => some m.1) → H ≤ x ∧ x < w.heap.size)
    (ho : Owned1 kdL (wr.alloc (.cells #[.int .i64 EE] 3)) w' wb 51 [xv, rv, ev, .slice ja jl.length jc, .slice a l.length c] 4 a sa (V ++ [wr.heap.size]) l) : OwnedL w w' wb xv rv ev ia il a l H ms.length := by
  obtain ⟨a', c', E, hB, hL, hK, hE, ha, ha2⟩ := ho
  have hH := d.hH
  have hwl := d.wl
  have hsz := h.kept.size
  have hs3 : (wr.alloc (.cells #[.int .i64 EE] 3)).heap.size = wr.heap.size + 1 := by simp
  have hjlt : ∀ x, bk ja = some x → x < wr.heap.size := fun x e => h.li.row.lt e
  have hllt := h.li.lt
  have hsup : ∀ x, bk sa = some x → H ≤ x ∧ x < w.heap.size := fun x e => hup x (by simp [e])
  have hms : ∀ (j : Nat) (m : Nat × Nat), ms[j]? = some m → (H ≤ m.1 ∧ m.1 < w.heap.size) ∧ bk sa ≠ some m.1 := fun j m hj => by
    refine ⟨hup m.1 (by simp only [List.mem_cons, List.mem_map]; exact Or.inr ⟨m, List.mem_of_getElem? hj, rfl⟩), fun e => ?_⟩
    have := hp 0 (j + 1) m.1 (by simp [e]) (by simp [hj]); omega
  have hjs : ∀ x, bk ja = some x → x ≠ wb ∧ bk a ≠ some x ∧ bk sa ≠ some x := fun x e => by
    rcases h.ja1 x e with g | g
    · have h1 := d.lo x (Or.inl g)
      exact ⟨h1.2, (d.ii x g).2.1, fun f => by have := (hsup x f).1; omega⟩
    · exact ⟨by omega, fun f => by have := (d.lo x (Or.inr (Or.inr (Or.inl f)))).1; omega, fun f => by have := (hsup x f).2; omega⟩
  have hls : ∀ x, some x ∈ fp1 jl → x ≠ wb ∧ bk a ≠ some x ∧ bk sa ≠ some x := fun x e => by
    rcases h.jl1 x e with g | ⟨j, m, _, hj, rfl⟩ | g
    · have h1 := d.lo x (Or.inr (Or.inl g))
      exact ⟨h1.2, fun f => (d.aa x f).1 g, fun f => by have := (hsup x f).1; omega⟩
    · have h1 := hms j m hj
      exact ⟨by omega, fun f => by have := (d.lo m.1 (Or.inr (Or.inr (Or.inl f)))).1; omega, h1.2⟩
    · exact ⟨by omega, fun f => by have := (d.lo x (Or.inr (Or.inr (Or.inl f)))).1; omega, fun f => by have := (hsup x f).2; omega⟩
  have hK2 : Kept (fun k => k = wb ∨ bk a = some k ∨ bk sa = some k) wr w' := ((Kept.refl _ wr).alloc _).trans hK
  have hEH : ∀ x, some x ∈ E.fp → H ≤ x := fun x e => by
    rcases hE x e with f | f | f
    · exact (hsup x f).1
    · simp only [List.mem_append, List.mem_singleton] at f
      rcases f with f | f
      · have := (h.vin x f).2.1; omega
      · omega
    · omega
  have hap : ∀ x, some x ∈ fp1 (l ++ [E]) → some x ∈ fp1 l ∨ some x ∈ E.fp := fun x e => by
    simpa only [fp1, List.flatMap_append, List.mem_append, List.flatMap_cons, List.flatMap_nil, List.append_nil] using e
  refine ⟨ja, jc, jl, a', c', E, by simpa using hB, h.li.kept hK2 (fun x e f => ?_) (fun x e f => ?_), hL, h.len, h.kept.mono (fun x _ e => ?_) |>.trans' hK2 (fun x hx e => ?_), h.ja1, fun x e => ⟨h.ja2 x e, fun f => ?_, fun f => ?_⟩, fun x e => ?_, fun x e => ?_, fun x e => ⟨fun f => ?_, ha2 x e⟩, hEH⟩
  · have := hjs x e
    rcases f with f | f | f
    · exact this.1 f
    · exact this.2.1 f
    · exact this.2.2 f
  · have := hls x e
    rcases f with f | f | f
    · exact this.1 f
    · exact this.2.1 f
    · exact this.2.2 f
  · rcases e with e | e | e
    · exact Or.inl e
    · exact Or.inr (Or.inl e)
    · exact Or.inr (Or.inr (Or.inr e))
  · rcases e with e | e | e
    · exact Or.inl e
    · exact Or.inr (Or.inr (Or.inl e))
    · exact Or.inr (Or.inr (Or.inr (hsup x e).1))
  · rcases ha x f with g | g
    · exact (hjs x e).2.1 g
    · have := hjlt x e; omega
  · rcases hap x f with g | g
    · rcases h.ja1 x e with g2 | g2
      · exact (d.ii x g2).2.2 g
      · have := (d.lo x (Or.inr (Or.inr (Or.inr g)))).1; omega
    · rcases hE x g with g2 | g2 | g2
      · exact (hjs x e).2.2 g2
      · simp only [List.mem_append, List.mem_singleton] at g2
        rcases g2 with g2 | g2
        · exact (h.vin x g2).2.2 e
        · have := hjlt x e; omega
      · have := hjlt x e; omega
  · rcases h.jl1 x e with g | ⟨j, m, _, hj, rfl⟩ | g
    · exact Or.inl g
    · exact Or.inr (hms j m hj).1.1
    · right; omega
  · rcases ha x e with g | g
    · exact Or.inl g
    · right; omega
  · rcases ha x e with g | g
    · exact (hls x f).2.1 g
    · have := hllt x f; omega

set_option maxRecDepth 100000 in
set_option maxHeartbeats 16000000 in
theorem ownL_any (wb : Nat) (xv rv ev : Value) (ia : Option Addr) (ic : Nat) (il : List E1) (a : Option Addr) (c : Nat) (l : List E1) (sa : Option Addr) (sc : Nat) (ms : List (Nat × Nat)) (n : Nat) (F : List (List Nat)) (H : Nat) (w : World)
    (hB : Blk w wb 51 [xv, rv, ev, .slice ia il.length ic, .slice a l.length c]) (hi : Lists1 w kdI ia ic il) (ho : Lists1 w kdL a c l) (hil : il.length ≤ 4000000000000) (hol : l.length ≤ 4000000000000)
    (hls : LsAt w H sa sc ms n F) (hn : n ≤ 3) (hms : ms.length ≤ 100) (hd : OLd w wb ia il a l H) :
    Calls Tryz.prog 51 #[.pointer (some ⟨wb, 0, none⟩), .slice sa ms.length sc] w fun e w' => e = .returned (.tuple #[]) ∧ OwnedL w w' wb xv rv ev ia il a l H ms.length := by
  obtain ⟨j0, hj0, hy0, hy1, hy2⟩ := info_parts ownL_sl
  obtain ⟨e0, he0, hu0, hu1, hu2⟩ := info_parts ownL_info
  have HD : Hid (OLd w wb ia il a l H) := hd
  have HLs : Hid (LsAt w H sa sc ms n F) := hls
  have HUp : Hid (∀ x, some x ∈ (bk sa :: ms.map fun m => some m.1) → H ≤ x ∧ x < w.heap.size) := fun x hx => ⟨hls.up x hx, by
    rcases List.mem_cons.1 hx with e | hk
    · exact hls.row.lt e.symm
    · obtain ⟨m, hm, e⟩ := List.mem_map.1 hk
      obtain ⟨i, hi, rfl⟩ := List.mem_iff_getElem.1 hm
      have := (hls.each i _ _ (List.getElem?_eq_getElem hi) (List.getElem?_eq_getElem (by rw [← hls.len]; exact hi))).2
      exact this.lt (by simpa [bk] using e)⟩
  obtain ⟨EE, HEE⟩ := hex (-7000 - (l.length : Int))
  have HO0 : Hid (OL w w wb xv rv ev ia il a c l sa sc ms n F H EE 0 ia ic il []) := by
    refine ⟨hB, hi, ho, rfl, ?_, rfl, fun g hg => (by cases hg), fun j m f _ hm hf => (hls.each j m f hm hf).2, Kept.refl _ _, fun x e => Or.inl e, fun x e => (hd.ii x e).1, fun x e => Or.inl e⟩
    exact hls.row
  have b4 := hB.cell 4
  simp only [List.getElem?_cons_zero, List.getElem?_cons_succ] at b4
  have hwb := hB.lt
  clear hB hi ho hd hls
  have hmk : ∀ u, Calls Tryz.prog 74 #[.int .i64 l.length] u fun e w' => e = .returned (.int .i64 EE) ∧ u = w' := by
    intro u; rw [HEE.out]; exact markN_any l.length u (by omega) (by omega)
  go_enter Tryz.func51, Tryz.ntmps51
  go_upto_region 1 with (go_at_call 74; refine (hmk _).mono ?_; rintro e w2 ⟨rfl, rfl⟩)
  clear hmk b4
  go_wp2
  go_loopw [5] (fun i wr => ∃ (k : Nat) (ja : Option Addr) (jc : Nat) (jl : List E1) (V : List Nat), k ≤ ms.length ∧ i = .int .i64 k ∧ OL w wr wb xv rv ev ia il a c l sa sc ms n F H EE k ja jc jl V) (fun i _ => ms.length - (intOf i).toNat)
  case atStart => exact ⟨0, ia, ic, il, [], Nat.zero_le _, rfl, HO0.out⟩
  case round =>
    clear HO0
    obtain ⟨k, ja, jc, jl, V, hk, rfl, hOL⟩ := hrel
    have HO : Hid (OL w wr wb xv rv ev ia il a c l sa sc ms n F H EE k ja jc jl V) := hOL
    clear hOL
    by_cases hlt : k < ms.length
    · have hlt' : (k : Int) < (ms.length : Int) := by omega
      have hk0 : (0 : Int) ≤ (k : Int) := by omega
      obtain ⟨m, HM⟩ := hex ms[k]
      have HMk : Hid (ms[k]? = some m) := by show _ = _; rw [HM.out]; exact List.getElem?_eq_getElem hlt
      obtain ⟨g0, hg0, _, _, hcl, _⟩ := HO.out.row.form (by omega)
      have x0 := hcl k (by omega)
      have hx : (V.map oneS ++ (ms.drop k).map (listS n))[k]? = some (.slice (some ⟨m.1, 0, none⟩) n m.2) := by
        rw [List.getElem?_append_right (by simp [HO.out.vlen])]
        simp [HO.out.vlen, HMk.out, listS]
      rw [hx] at x0
      have HG : Hid (sa = some ⟨g0, 0, none⟩) := hg0
      rw [hg0]
      clear hg0 hcl hx HM
      have hoi : ∀ u, u = wr → Calls Tryz.prog 81 #[.pointer (some ⟨wb, 0, none⟩), .slice (some ⟨m.1, 0, none⟩) n m.2] u fun e w' => e = .returned (.tuple #[]) ∧ Owned1 kdI wr w' wb 51 [xv, rv, ev, .slice ja jl.length jc, .slice a l.length c] 3 ja (some ⟨m.1, 0, none⟩) [] jl := by
        rintro u rfl
        obtain ⟨f, hf⟩ : ∃ f, F[k]? = some f := ⟨_, List.getElem?_eq_getElem (by rw [← HLs.out.len]; exact hlt)⟩
        have hrow := HO.out.rest k m f (Nat.le_refl _) HMk.out hf
        have hfl := (HLs.out.each k m f HMk.out hf).1
        have hmu := HUp.out m.1 (by simp only [List.mem_cons, List.mem_map]; exact Or.inr ⟨m, List.mem_of_getElem? HMk.out, rfl⟩)
        have hDD := HD.out
        have hwl := hDD.wl
        have hH := hDD.hH
        have hl2 := HO.out.len
        have hdis : ∀ (j : Nat) (m' : Nat × Nat), j < k → ms[j]? = some m' → m'.1 ≠ m.1 := fun j m' hj hm' e => by
          have := HLs.out.dis (j + 1) (k + 1) m.1 (by simp [hm', e]) (by simp [HMk.out]); omega
        have hr2 : Row u 3 1 (some ⟨m.1, 0, none⟩) (natV f).length m.2 (natV f) := by
          have e : (natV f).length = n := by simp [natV, hfl]
          rw [e]; exact hrow
        have e : (natV f).length = n := by simp [natV, hfl]
        have := ownI_any wb xv rv ev (.slice a l.length c) ja jc jl (some ⟨m.1, 0, none⟩) m.2 (natV f) u HO.out.blk HO.out.li (by omega) hr2 (by omega) ?_ ?_ ?_ ?_ HO.out.ja2
        · rw [e] at this; exact this
        · intro e'; simp only [bk, Option.map_some, Option.some.injEq] at e'; omega
        · intro x e'
          simp only [bk, Option.map_some, Option.some.injEq] at e'
          subst e'
          refine ⟨fun f' => ?_, fun f' => ?_⟩
          · rcases HO.out.ja1 _ f' with g | g
            · have := (hDD.lo _ (Or.inl g)).1; omega
            · omega
          · rcases HO.out.jl1 _ f' with g | ⟨j, m', h1, h2, h3⟩ | g
            · have := (hDD.lo _ (Or.inr (Or.inl g))).1; omega
            · exact hdis j m' h1 h2 h3
            · omega
        · intro f'
          rcases HO.out.ja1 _ f' with g | g
          · exact (hDD.lo _ (Or.inl g)).2 rfl
          · omega
        · intro f'
          rcases HO.out.jl1 _ f' with g | ⟨j, m', h1, h2, h3⟩ | g
          · exact (hDD.lo _ (Or.inr (Or.inl g))).2 rfl
          · have := (HUp.out m'.1 (by simp only [List.mem_cons, List.mem_map]; exact Or.inr ⟨m', List.mem_of_getElem? h2, rfl⟩)).1; omega
          · omega
      have HCl : Hid (∀ w1, Owned1 kdI wr w1 wb 51 [xv, rv, ev, .slice ja jl.length jc, .slice a l.length c] 3 ja (some ⟨m.1, 0, none⟩) [] jl → ∃ v, w1.cell? ⟨g0, k, none⟩ = some v ∧ w1.frozen? ⟨g0, k, none⟩ = false ∧ g0 < w1.heap.size) := by
        rintro w1 ⟨ja', jc', E, hB, hL, hK, hE, hja, hja2⟩
        have hgu := HUp.out g0 (by simp [HG.out, bk])
        have hr : Row w1 36 1 sa ms.length sc (V.map oneS ++ (ms.drop k).map (listS n)) := by
          refine HO.out.row.kept hK (fun x e f => ?_)
          rw [HG.out] at e
          simp only [bk, Option.map_some, Option.some.injEq] at e
          subst e
          have hwl := HD.out.wl
          rcases f with f | f | f
          · omega
          · rcases HO.out.ja1 _ f with g | g
            · have := (HD.out.lo _ (Or.inl g)).1; omega
            · omega
          · simp only [bk, Option.map_some, Option.some.injEq] at f
            have := HLs.out.dis 0 (k + 1) g0 (by simp [HG.out, bk]) (by simp [HMk.out, f]); omega
        obtain ⟨g', hg', _, _, hcl, hfz⟩ := hr.form (by omega)
        rw [HG.out] at hg'
        simp only [Option.some.injEq, Addr.mk.injEq, and_true] at hg'
        subst hg'
        have hlv : k < (V.map oneS ++ (ms.drop k).map (listS n)).length := by simp [HO.out.vlen]; omega
        exact ⟨_, (hcl k (by omega)).trans (List.getElem?_eq_getElem hlv), hfz k, hr.lt (by simp [HG.out, bk])⟩
      go_upto_region 5 with (go_at_call 81; refine (hoi _ rfl).mono ?_; rintro e w1 ⟨rfl, hown⟩)
      have HOw : Hid (Owned1 kdI wr w1 wb 51 [xv, rv, ev, .slice ja jl.length jc, .slice a l.length c] 3 ja (some ⟨m.1, 0, none⟩) [] jl) := hown
      clear hown hoi x0
      obtain ⟨cv, x0, f0, hgl⟩ := HCl.out w1 HOw.out
      have HNx : Hid (∃ ja' jc' jl', OL w ((w1.alloc (.cells #[.int .i64 EE] 3)).setCell ⟨g0, k, none⟩ (.slice (some ⟨w1.heap.size, 0, none⟩) 1 1)) wb xv rv ev ia il a c l sa sc ms n F H EE (k + 1) ja' jc' jl' (V ++ [w1.heap.size])) := HO.out.next HD.out HLs.out.dis HUp.out HG.out hlt HMk.out HOw.out
      have x0' : (w1.alloc (.cells #[.int .i64 EE] 3)).cell? ⟨g0, k, none⟩ = some cv := ((Below.refl _ w1).alloc (Nat.le_refl _) _).cell (p := ⟨g0, k, none⟩) hgl |>.trans x0
      have f0' : (w1.alloc (.cells #[.int .i64 EE] 3)).frozen? ⟨g0, k, none⟩ = false := by
        have := f0
        unfold World.frozen? at this ⊢
        rw [Below.heap_alloc _ _ _ hgl]
        exact this
      clear HO HOw HCl
      go_wp2
      go_roundw
      case rel =>
        obtain ⟨ja', jc', jl', hN⟩ := HNx.out
        rw [World.setCell_alloc_past _ _ _ _ hgl] at hN
        rw [HG.out] at hN
        exact ⟨k + 1, ja', jc', jl', V ++ [w1.heap.size], by omega, by go_num, hN⟩
      case measure => simp [intOf]; omega
    · obtain rfl : k = ms.length := by omega
      go_upto_region 7 with fail
      obtain ⟨w3, HW3⟩ := hex (wr.alloc (.cells #[.int .i64 EE] 3))
      rw [← HW3.out]
      obtain ⟨ob, HOb⟩ := hex wr.heap.size
      rw [← HOb.out]
      have HW3e : Hid (w3 = wr.alloc (.cells #[.int .i64 EE] 3)) := HW3.out
      have HBl : Hid (Below wr.heap.size wr w3) := by show Below _ _ _; rw [HW3.out]; exact (Below.refl _ _).alloc (Nat.le_refl _) _
      have HOB : Hid (Blk w3 ob 3 [.int .i64 EE]) := by show Blk _ _ _ _; rw [HW3.out, HOb.out]; exact blk_alloc _ _ _
      obtain ⟨V2, HV2⟩ := hex (V ++ [ob])
      have HSu : Hid (∀ k, bk sa = some k → H ≤ k ∧ k < w.heap.size) := fun k e => HUp.out k (by simp [e])
      have HB3 : Hid (Blk w3 wb 51 [xv, rv, ev, .slice ja jl.length jc, .slice a l.length c]) := HO.out.blk.below HBl.out HO.out.blk.lt
      have HL3 : Hid (Lists1 w3 kdL a c l) := HO.out.lo.below HBl.out
      have hws := HO.out.kept.size
      have hw3s := HBl.out.size
      have HSL : Hid (∀ k, bk sa = some k → k < w3.heap.size) := fun k e => by have := (HSu.out k e).2; omega
      have D1 : Hid (bk sa ≠ some wb) := fun e => by have := (HSu.out _ e).1; have := HD.out.wl; omega
      have D2 : Hid (∀ k, bk sa = some k → bk a ≠ some k ∧ some k ∉ fp1 l) := fun k e => ⟨fun f => by have := (HSu.out _ e).1; have := (HD.out.lo k (Or.inr (Or.inr (Or.inl f)))).1; omega, fun f => by have := (HSu.out _ e).1; have := (HD.out.lo k (Or.inr (Or.inr (Or.inr f)))).1; omega⟩
      have D3 : Hid (bk a ≠ some wb) := fun f => (HD.out.lo wb (Or.inr (Or.inr (Or.inl f)))).2 rfl
      have D4 : Hid (some wb ∉ fp1 l) := fun f => (HD.out.lo wb (Or.inr (Or.inr (Or.inr f)))).2 rfl
      have D5 : Hid (∀ k, bk a = some k → some k ∉ fp1 l) := fun k e => (HD.out.aa k e).2
      have HDw : Hid (¬ (bk sa = some wb ∨ bk a = some wb)) := fun e => e.elim (fun e => D1.out e) (fun e => D3.out e)
      have DV : Hid (∀ g ∈ V2, Blk w3 g kdL.ti [kdL.m l.length] ∧ g ≠ wb ∧ bk a ≠ some g ∧ bk sa ≠ some g) := by
        intro g hg
        have hm : kdL.m l.length = .int .i64 EE := by rw [HEE.out]; rfl
        have hge : w.heap.size ≤ g ∧ Blk w3 g 3 [.int .i64 EE] := by
          rw [HV2.out, List.mem_append, List.mem_singleton] at hg
          rcases hg with hg | hg
          · exact ⟨(HO.out.vin g hg).2.1, (HO.out.vin g hg).1.below HBl.out (HO.out.vin g hg).1.lt⟩
          · rw [hg]; exact ⟨by rw [HOb.out]; exact hws, HOB.out⟩
        have hHs := HD.out.hH
        have hwl := HD.out.wl
        refine ⟨by rw [hm]; exact hge.2, by omega, fun f => ?_, fun f => ?_⟩
        · have := (HD.out.lo g (Or.inr (Or.inr (Or.inl f)))).1; omega
        · have := (HSu.out g f).2; omega
      have HPh : Hid (∀ k : Nat, ∀ j v, (List.replicate k (Value.slice (some ⟨ob, 0, none⟩) 1 1))[j]? = some v → (kdL.six l.length V2).φ (j % 1) v) := by
        intro k; exact rep_phi (φ := (kdL.six l.length V2).φ) (fun o => ⟨ob, by rw [HV2.out]; simp, rfl⟩) k
      have HOne : Hid (∀ j v, (kdL.six l.length V2).φ j v → v.oneCell' = true) := by
        rintro j v ⟨g, _, rfl⟩; rfl
      have HJ0 : Hid ((kdL.six l.length V2).J w3 ⟨sa, ms.length, sc⟩ w3) := by
        refine ⟨Kept.refl _ _, V.map oneS, ?_, ?_⟩
        · have := HO.out.row.kept (below_kept HBl.out (fun _ => False)) (fun _ _ e => e)
          rw [List.drop_length, List.map_nil, List.append_nil] at this
          exact this
        · intro j v hv
          rw [List.getElem?_map] at hv
          obtain ⟨g, hg, rfl⟩ := Option.map_eq_some_iff.1 hv
          exact ⟨g, by rw [HV2.out, List.mem_append]; exact Or.inl (List.mem_of_getElem? hg), rfl⟩
      have b2 := HB3.out.cell 4
      simp only [List.getElem?_cons_zero, List.getElem?_cons_succ] at b2
      have HS2 : Hid (∀ v : World, Kept (fun b => bk sa = some b ∨ bk a = some b) w3 v → (fun u : World => u.cell? ⟨wb, 4, none⟩ = some (.slice a l.length c)) v) := by
        intro v hv
        exact (HB3.out.kept hv HDw.out).cell 4
      have HS : Hid (∀ v : World, (kdL.six l.length V2).J w3 ⟨sa, ms.length, sc⟩ v → (fun u : World => u.cell? ⟨wb, 4, none⟩ = some (.slice a l.length c)) v) := fun v hv => HS2.out v (hv.1.mono (fun k _ e => Or.inl e))
      clear hws hw3s
      refine upTo_region (fun u : World => u.cell? ⟨wb, 4, none⟩ = some (.slice a l.length c)) 30 31 rfl (by kernel_rfl) ?_
      have hS0 : (fun u : World => u.cell? ⟨wb, 4, none⟩ = some (.slice a l.length c)) w3.drew := HS.out _ (SixKd.jdrew HJ0.out)
      refine upTo_tk (i := 0) (v := ?v25_0) rfl (by kernel_rfl) (fun _ _ _ h => h) (by rfl) hS0 ?h25_0 ?r25_0
      case h25_0 => (intro u hu; (try dsimp only at hu); go_simp; first | done | with_reducible rfl)
      (try simp only [Act.put, tkS])
      refine upTo_tk (i := 1) (v := ?v25_1) rfl (by kernel_rfl) (fun _ _ _ h => h) (by rfl) hS0 ?h25_1 ?r25_1
      case h25_1 => (intro u hu; (try dsimp only at hu); go_simp; first | done | with_reducible rfl)
      (try simp only [Act.put, tkS])
      refine upTo_tk (i := 2) (v := ?v25_2) rfl (by kernel_rfl) (fun _ _ _ h => h) (by rfl) hS0 ?h25_2 ?r25_2
      case h25_2 => (intro u hu; (try dsimp only at hu); go_simp; first | done | with_reducible rfl)
      (try simp only [Act.put, tkS])
      refine upTo_tk (i := 3) (v := ?v25_3) rfl (by kernel_rfl) (fun _ _ _ h => h) (by rfl) hS0 ?h25_3 ?r25_3
      case h25_3 => (intro u hu; (try dsimp only at hu); go_simp; first | done | with_reducible rfl)
      (try simp only [Act.put, tkS])
      refine upTo_tk (i := 4) (v := ?v25_4) rfl (by kernel_rfl) (fun _ _ _ h => h) (by rfl) hS0 ?h25_4 ?r25_4
      case h25_4 => (intro u hu; (try dsimp only at hu); go_simp; first | done | with_reducible rfl)
      (try simp only [Act.put, tkS])
      refine upTo_tk (i := 5) (v := ?v25_5) rfl (by kernel_rfl) (fun _ _ _ h => h) (by rfl) hS0 ?h25_5 ?r25_5
      case h25_5 => (intro u hu; (try dsimp only at hu); go_simp; first | done | with_reducible rfl)
      (try simp only [Act.put, tkS])
      refine upTo_tk (i := 6) (v := ?v25_6) rfl (by kernel_rfl) (fun _ _ _ h => h) (by rfl) hS0 ?h25_6 ?r25_6
      case h25_6 => (intro u hu; (try dsimp only at hu); go_simp; first | done | with_reducible rfl)
      (try simp only [Act.put, tkS])
      refine upTo_tk (i := 7) (v := ?v25_7) rfl (by kernel_rfl) (fun _ _ _ h => h) (by rfl) hS0 ?h25_7 ?r25_7
      case h25_7 => (intro u hu; (try dsimp only at hu); go_simp; first | done | with_reducible rfl)
      (try simp only [Act.put, tkS])
      refine upTo_tk (i := 10) (v := ?v25_10) rfl (by kernel_rfl) (fun _ _ _ h => h) (by rfl) hS0 ?h25_10 ?r25_10
      case h25_10 => (intro u hu; (try dsimp only at hu); go_simp; first | done | with_reducible rfl)
      (try simp only [Act.put, tkS])
      refine upTo_tk (i := 11) (v := ?v25_11) rfl (by kernel_rfl) (fun _ _ _ h => h) (by rfl) hS0 ?h25_11 ?r25_11
      case h25_11 => (intro u hu; (try dsimp only at hu); go_simp; first | done | with_reducible rfl)
      (try simp only [Act.put, tkS])
      refine upTo_tk (i := 12) (v := ?v25_12) rfl (by kernel_rfl) (fun _ _ _ h => h) (by rfl) hS0 ?h25_12 ?r25_12
      case h25_12 => (intro u hu; (try dsimp only at hu); go_simp; first | done | with_reducible rfl)
      (try simp only [Act.put, tkS])
      refine upTo_tk (i := 15) (v := ?v25_15) rfl (by kernel_rfl) (fun _ _ _ h => h) (by rfl) hS0 ?h25_15 ?r25_15
      case h25_15 => (intro u hu; (try dsimp only at hu); go_simp; first | done | with_reducible rfl)
      (try simp only [Act.put, tkS])
      refine upTo_tk (i := 16) (v := ?v25_16) rfl (by kernel_rfl) (fun _ _ _ h => h) (by rfl) hS0 ?h25_16 ?r25_16
      case h25_16 => (intro u hu; (try dsimp only at hu); go_simp; first | done | with_reducible rfl)
      (try simp only [Act.put, tkS])
      refine upTo_tk (i := 17) (v := ?v25_17) rfl (by kernel_rfl) (fun _ _ _ h => h) (by rfl) hS0 ?h25_17 ?r25_17
      case h25_17 => (intro u hu; (try dsimp only at hu); go_simp; first | done | with_reducible rfl)
      (try simp only [Act.put, tkS])
      refine upTo_tk (i := 18) (v := ?v25_18) rfl (by kernel_rfl) (fun _ _ _ h => h) (by rfl) hS0 ?h25_18 ?r25_18
      case h25_18 => (intro u hu; (try dsimp only at hu); go_simp; first | done | with_reducible rfl)
      (try simp only [Act.put, tkS])
      refine upTo_tk (i := 19) (v := ?v25_19) rfl (by kernel_rfl) (fun _ _ _ h => h) (by rfl) hS0 ?h25_19 ?r25_19
      case h25_19 => (intro u hu; (try dsimp only at hu); go_simp; first | done | with_reducible rfl)
      (try simp only [Act.put, tkS])
      refine upTo_tk (i := 20) (v := ?v25_20) rfl (by kernel_rfl) (fun _ _ _ h => h) (by rfl) hS0 ?h25_20 ?r25_20
      case h25_20 => (intro u hu; (try dsimp only at hu); go_simp; first | done | with_reducible rfl)
      (try simp only [Act.put, tkS])
      refine upTo_tk (i := 21) (v := ?v25_21) rfl (by kernel_rfl) (fun _ _ _ h => h) (by rfl) hS0 ?h25_21 ?r25_21
      case h25_21 => (intro u hu; (try dsimp only at hu); go_simp; first | done | with_reducible rfl)
      (try simp only [Act.put, tkS])
      clear hS0
      have HJv : Hid ((kdL.six l.length V2).J w3 ⟨sa, ms.length, sc⟩ w3.drew) := SixKd.jdrew HJ0.out
      obtain ⟨v0, HV0⟩ := hex w3.drew
      rw [← HV0.out] at HJv
      rw [← HV0.out]
      clear HV0
      refine upTo_six 8 9 13 14 22 23 undef undef undef undef undef undef rfl rfl rfl rfl rfl rfl rfl rfl rfl rfl rfl rfl (by decide) (by decide) (by kernel_rfl) (by decide) (by rfl) ((kdL.six l.length V2).J w3 ⟨sa, ms.length, sc⟩) (kdL.six l.length V2).T ((kdL.six l.length V2).B 1) ((kdL.six l.length V2).R w3 ⟨sa, ms.length, sc⟩ 1) ((kdL.six l.length V2).B 2) ((kdL.six l.length V2).R w3 ⟨sa, ms.length, sc⟩ 2) ((kdL.six l.length V2).B 6) ((kdL.six l.length V2).R w3 ⟨sa, ms.length, sc⟩ 6) SixKd.trans (fun u hu => HS.out u hu) HJv.out ?sb ?fin
      case sb =>
        intro y1 z1 y2 z2 y3 z3 u hJ
        refine ⟨?_, ?_, ?_, ?_, ?_, ?_⟩
        · refine SixKd.build hJ 1 [.slice (some ⟨ob, 0, none⟩) 1 1] rfl (by omega) (HPh.out 1) rfl ?_
          unfold six
          (try simp only [Act.put, tkS])
          go_simp
          first | done | with_reducible rfl | rfl
        · refine SixKd.build hJ 2 [.slice (some ⟨ob, 0, none⟩) 1 1, .slice (some ⟨ob, 0, none⟩) 1 1] rfl (by omega) (HPh.out 2) rfl ?_
          unfold six
          (try simp only [Act.put, tkS])
          go_simp
          first | done | with_reducible rfl | rfl
        · refine SixKd.build hJ 6 [.slice (some ⟨ob, 0, none⟩) 1 1, .slice (some ⟨ob, 0, none⟩) 1 1, .slice (some ⟨ob, 0, none⟩) 1 1, .slice (some ⟨ob, 0, none⟩) 1 1, .slice (some ⟨ob, 0, none⟩) 1 1, .slice (some ⟨ob, 0, none⟩) 1 1] rfl (by omega) (HPh.out 6) rfl ?_
          unfold six
          (try simp only [Act.put, tkS])
          go_simp
          first | done | with_reducible rfl | rfl
        · intro hy
          exact SixKd.appended hJ hy rfl (.tmp 38) (.tmp 40) 107 rfl 24 j0 _ Tryz.underlying107 hj0 hy0 hy1 hy2 rfl (Nat.zero_lt_succ _) (by decide) HOne.out (by unfold six; (try simp only [Act.put, tkS]); rfl) (by unfold six; (try simp only [Act.put, tkS]); rfl) (by omega) (by simp only; omega)
        · intro hy
          exact SixKd.appended hJ hy rfl (.tmp 42) (.tmp 45) 107 rfl 24 j0 _ Tryz.underlying107 hj0 hy0 hy1 hy2 rfl (Nat.zero_lt_succ _) (by decide) HOne.out (by unfold six; (try simp only [Act.put, tkS]); rfl) (by unfold six; (try simp only [Act.put, tkS]); rfl) (by omega) (by simp only; omega)
        · intro hy
          exact SixKd.appended hJ hy rfl (.tmp 47) (.tmp 54) 107 rfl 24 j0 _ Tryz.underlying107 hj0 hy0 hy1 hy2 rfl (Nat.zero_lt_succ _) (by decide) HOne.out (by unfold six; (try simp only [Act.put, tkS]); rfl) (by unfold six; (try simp only [Act.put, tkS]); rfl) (by omega) (by simp only; omega)
      case fin =>
        intro y1 z1 y2 z2 y3 z3 W hJ hB1 hR1 hB2 hR2 hB3 hR3
        obtain ⟨r1, e1, -⟩ := id hR1
        obtain ⟨r2, e2, -⟩ := id hR2
        obtain ⟨r3, e3, -⟩ := id hR3
        rw [e1] at hR1
        rw [e2] at hR2
        rw [e3] at hR3
        rw [e1, e2, e3]
        clear e1 e2 e3 hB1 hB2 hB3 HJ0 HJv
        have HJW : Hid ((kdL.six l.length V2).J w3 ⟨sa, ms.length, sc⟩ W) := hJ
        have HR1 : Hid ((kdL.six l.length V2).R w3 ⟨sa, ms.length, sc⟩ 1 r1.val W) := hR1
        have HR2 : Hid ((kdL.six l.length V2).R w3 ⟨sa, ms.length, sc⟩ 2 r2.val W) := hR2
        have HR3 : Hid ((kdL.six l.length V2).R w3 ⟨sa, ms.length, sc⟩ 6 r3.val W) := hR3
        have HKW : Hid (Kept (fun b => bk sa = some b) w3 W) := hJ.1
        clear hJ hR1 hR2 hR3
        unfold six Sl1.val
        (try simp only [Act.put, tkS])
        refine upTo_one (i := 24) (by kernel_rfl) rfl (fun K hK => ?_)
        go_simp
        refine hK.out _ _ (fun _ => HS2.out _ ((HKW.out.alloc _).mono (fun k _ e => Or.inl e))) ?_
        clear hK K
        (try simp only [Act.put, tkS])
        refine upTo_one (i := 25) (by kernel_rfl) rfl (fun K hK => ?_)
        go_simp
        refine hK.out _ _ (fun _ => HS2.out _ ((HKW.out.alloc _).mono (fun k _ e => Or.inl e))) ?_
        clear hK K
        (try simp only [Act.put, tkS])
        refine upTo_one (i := 26) (by kernel_rfl) rfl (fun K hK => ?_)
        go_simp
        refine hK.out _ _ (fun _ => HS2.out _ (((HKW.out.alloc _).alloc _).mono (fun k _ e => Or.inl e))) ?_
        clear hK K
        (try simp only [Act.put, tkS])
        have HO4 : Hid (((W.alloc (.cells #[.slice sa ms.length sc, .slice r1.a r1.n r1.c, .slice r2.a r2.n r2.c, .slice r3.a r3.n r3.c] 107)).alloc (.cells #[.slice (some ⟨W.heap.size, 0, none⟩) 4 4] 127)).ownsRow 0 127 1 (.slice a l.length c) l.length (l.map E1.val)) := by
          show World.ownsRow _ _ _ _ _ _ _
          exact Row.kept (HL3.out.row) ((HKW.out.alloc _).alloc _) (fun k e f => (D2.out k f).1 e)
        refine upTo_one (i := 27) (by kernel_rfl) rfl (fun K hK => ?_)
        refine step_append_lies _ (by rfl) _ _ _ (by rfl) 0 127 e0 _ 1 24 Tryz.underlying49 he0 hu0 hu1 hu2 rfl (by omega) (.slice a l.length c) l.length (l.map E1.val) (by rfl) HO4.out
          ⟨W.heap.size + 1, 0, none⟩ 1 1 [.slice (some ⟨W.heap.size, 0, none⟩) 4 4] (by rfl) (by rfl) (news_new _ _ (by simp) [.slice (some ⟨W.heap.size, 0, none⟩) 4 4] 127) (by simp [Value.oneCell'])
          (by omega) (by unfold maxLen; omega) (by omega) (by omega) (W.heap.size + 2) (by simp) ?_
        intro gg cap w1 hown1 hgrow hat hlt1
        have HC : Hid (Kept (fun b => bk sa = some b ∨ bk a = some b) w3 w1) := (((HKW.out.alloc _).alloc _).mono (fun k _ e => Or.inl e)).grown hgrow (fun k _ e => Or.inr (by rw [bk_own] at e; exact e))
        have HB1 : Hid (Blk w1 wb 51 [xv, rv, ev, .slice ja jl.length jc, .slice a l.length c]) := HB3.out.kept HC.out HDw.out
        have HFi : Hid (Owned1 kdL w3 (w1.setCell ⟨wb, 4, none⟩ (.slice (some ⟨gg, 0, none⟩) (l.length + 1) cap)) wb 51 [xv, rv, ev, .slice ja jl.length jc, .slice a l.length c] 4 a sa V2 l) := own1_close HB3.out HL3.out HSL.out D1.out D2.out D3.out D4.out D5.out DV.out HJW.out HR1.out HR2.out HR3.out (by omega) hown1 hgrow hat
        clear hown1 hgrow hat
        refine hK.out _ _ (fun _ => HS2.out _ HC.out) ?_
        clear hK K
        (try simp only [Act.put, tkS])
        refine upTo_one (i := 28) (by kernel_rfl) rfl (fun K hK => ?_)
        go_simp
        refine hK.out _ _ (fun _ => HS2.out _ HC.out) ?_
        clear hK K
        (try simp only [Act.put, tkS])
        refine upTo_one (i := 29) (by kernel_rfl) rfl (fun K hK => ?_)
        go_simp
        refine hK.out _ _ (fun _ => HS2.out _ HC.out) ?_
        clear hK K
        (try simp only [Act.put, tkS])
        have q5 := HB1.out.cell 4
        have q6 := HB1.out.frozen 4
        simp only [List.getElem?_cons_succ, List.getElem?_cons_zero] at q5
        refine upTo_one (i := 30) (by kernel_rfl) rfl (fun K hK => ?_)
        go_simp
        refine hK.out _ _ (fun h => absurd rfl h) ?_
        clear hK K
        (try simp only [Act.put, tkS])
        refine upTo_done (by kernel_rfl) ?_
        clear q5 q6
        go_wp2
        go_end0
        refine ⟨rfl, HO.out.close HD.out HLs.out.dis HUp.out ?_⟩
        have := HFi.out
        rw [HW3e.out, HV2.out, HOb.out] at this
        exact this
end Go.Proofs.YtghcololkgeoeabGreat
namespace Go.Proofs.YtghcololkgeoeabGreat
open Go.RowKit
set_option linter.unusedVariables false
set_option linter.unusedSimpArgs false
structure Lz where
  e : List E1
  ia : Option Addr
  ic : Nat
  i : List E1
  oa : Option Addr
  oc : Nat
  o : List E1
def Lz.length (l : Lz) : Nat := l.e.length + l.o.length
def Lz.nil : Lz := ⟨[], none, 0, [], none, 0, []⟩
def Lz.more (l : Lz) (E : E1) : Lz := { l with e := l.e ++ [E] }
def zfp (l : Lz) : List (Option Nat) := bk l.ia :: bk l.oa :: (fp1 l.e ++ (fp1 l.i ++ fp1 l.o))
theorem mem_zfp {l : Lz} {k : Nat} : some k ∈ zfp l ↔ bk l.ia = some k ∨ bk l.oa = some k ∨ some k ∈ fp1 l.e ∨ some k ∈ fp1 l.i ∨ some k ∈ fp1 l.o := by
  unfold zfp
  simp only [List.mem_cons, List.mem_append]
  constructor
  · rintro (h | h | h | h | h)
    · exact Or.inl h.symm
    · exact Or.inr (Or.inl h.symm)
    · exact Or.inr (Or.inr (Or.inl h))
    · exact Or.inr (Or.inr (Or.inr (Or.inl h)))
    · exact Or.inr (Or.inr (Or.inr (Or.inr h)))
  · rintro (h | h | h | h | h)
    · exact Or.inl h.symm
    · exact Or.inr (Or.inl h.symm)
    · exact Or.inr (Or.inr (Or.inl h))
    · exact Or.inr (Or.inr (Or.inr (Or.inl h)))
    · exact Or.inr (Or.inr (Or.inr (Or.inr h)))
theorem zfp_e {l : Lz} {k : Nat} (h : some k ∈ fp1 l.e) : some k ∈ zfp l := mem_zfp.2 (Or.inr (Or.inr (Or.inl h)))
theorem zfp_i {l : Lz} {k : Nat} (h : some k ∈ fp1 l.i) : some k ∈ zfp l := mem_zfp.2 (Or.inr (Or.inr (Or.inr (Or.inl h))))
theorem zfp_o {l : Lz} {k : Nat} (h : some k ∈ fp1 l.o) : some k ∈ zfp l := mem_zfp.2 (Or.inr (Or.inr (Or.inr (Or.inr h))))
theorem zfp_ia {l : Lz} {k : Nat} (h : bk l.ia = some k) : some k ∈ zfp l := mem_zfp.2 (Or.inl h)
theorem zfp_oa {l : Lz} {k : Nat} (h : bk l.oa = some k) : some k ∈ zfp l := mem_zfp.2 (Or.inr (Or.inl h))
theorem zfp_nil (k : Nat) : some k ∉ zfp Lz.nil := by simp [zfp, Lz.nil, fp1, bk]
structure LsInv (w : World) (a : Option Addr) (c : Nat) (l : Lz) : Prop where
  le : Lists1 w kdE a c l.e
  li : Lists1 w kdI l.ia l.ic l.i
  lo : Lists1 w kdL l.oa l.oc l.o
  di : ∀ k, bk l.ia = some k → bk l.oa ≠ some k ∧ some k ∉ fp1 l.e ∧ some k ∉ fp1 l.i ∧ some k ∉ fp1 l.o
  do_ : ∀ k, bk l.oa = some k → some k ∉ fp1 l.e ∧ some k ∉ fp1 l.i ∧ some k ∉ fp1 l.o
  num : l.i.length ≤ 100 * l.o.length
theorem LsInv.kept {S : Nat → Prop} {w w' : World} {a : Option Addr} {c : Nat} {l : Lz} (h : LsInv w a c l) (hk : Kept S w w') (ha : ∀ k, bk a = some k → ¬ S k) (hn : ∀ k, some k ∈ zfp l → ¬ S k) : LsInv w' a c l :=
  ⟨h.le.kept hk ha (fun k e => hn k (zfp_e e)), h.li.kept hk (fun k e => hn k (zfp_ia e)) (fun k e => hn k (zfp_i e)), h.lo.kept hk (fun k e => hn k (zfp_oa e)) (fun k e => hn k (zfp_o e)), h.di, h.do_, h.num⟩
theorem LsInv.below {w w' : World} {a : Option Addr} {c : Nat} {l : Lz} (h : LsInv w a c l) (hb : Below w.heap.size w w') : LsInv w' a c l := h.kept (below_kept hb (fun _ => False)) (fun _ _ e => e) (fun _ _ e => e)
theorem LsInv.zfp_lt {w : World} {a : Option Addr} {c : Nat} {l : Lz} (h : LsInv w a c l) : ∀ k, some k ∈ zfp l → k < w.heap.size := by
  intro k hk
  rcases mem_zfp.1 hk with e | e | e | e | e
  · exact h.li.row.lt e
  · exact h.lo.row.lt e
  · exact h.le.lt k e
  · exact h.li.lt k e
  · exact h.lo.lt k e
theorem LsInv.nil (w : World) : LsInv w none 0 Lz.nil := ⟨Lists1.nil _ _, Lists1.nil _ _, Lists1.nil _ _, fun k e => (by cases e), fun k e => (by cases e), by simp [Lz.nil]⟩
end Go.Proofs.YtghcololkgeoeabGreat
