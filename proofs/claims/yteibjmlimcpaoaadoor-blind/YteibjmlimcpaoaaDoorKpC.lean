/-
  What the laws' own known answers: true. Nothing that lay in memory turns.
-/
import Derived.Test.YteibjmlimcpaoaaDoorKa
import Derived.Test.YteibjmlimcpaoaaDoorWf
import Derived.Test.YteibjmlimcpaoaaDoorWg
import Derived.Test.YteibjmlimcpaoaaDoorDa
set_option linter.unusedVariables false
set_option linter.unusedSimpArgs false
namespace Go.Proofs.YteibjmlimcpaoaaDoor.W
open Go.RowKit Go.Sort

def zero13 : Array Value := #[.int .i64 0, .slice none 0 0, .int .i64 0, .int .i64 0, .int .i64 0, .int .i64 0, .int .i64 0, .int .i64 0, .int .i64 0, .slice none 0 0, .int .i64 0, .int .i64 0, .int .i64 0]
/-- a walk behind two boxes: a report's, a meter's, each there or not yet -/
structure Kx (W : World) (a b : Option Nat) (w : World) : Prop where
  g : Below W.heap.size W w
  a : ∀ j, a = some j → W.heap.size ≤ j ∧ w.heap[j]? = some (.cells #[.int .i64 0, .slice none 0 0, .int .i64 0, .int .i64 0, .int .i64 0, .int .i64 0, .int .i64 0, .int .i64 0, .int .i64 0, .slice none 0 0, .int .i64 0, .int .i64 0, .int .i64 0] 37 (0, 0))
  b : ∀ j, b = some j → W.heap.size ≤ j ∧ w.heap[j]? = some (.cells #[.int .i64 0, .int .i64 0] 64 (0, 0))
section
variable {W w w' : World} {a b : Option Nat}
theorem Kx.start : Kx W none none W := ⟨Below.refl _ _, (fun _ e => by cases e), (fun _ e => by cases e)⟩
theorem Kx.drew (h : Kx W a b w) : Kx W a b w.drew := ⟨h.g.drew, h.a, h.b⟩
theorem Kx.A (h : Kx W none b w) : Kx W (some w.heap.size) b (w.alloc (.cells #[.int .i64 0, .slice none 0 0, .int .i64 0, .int .i64 0, .int .i64 0, .int .i64 0, .int .i64 0, .int .i64 0, .int .i64 0, .slice none 0 0, .int .i64 0, .int .i64 0, .int .i64 0] 37)) :=
  ⟨h.g.alloc h.g.size _, fun j e => by cases e; exact ⟨h.g.size, new_at _ _⟩, fun j e => ⟨(h.b j e).1, at_alloc (h.b j e).2⟩⟩
theorem Kx.B (h : Kx W a none w) : Kx W a (some w.heap.size) (w.alloc (.cells #[.int .i64 0, .int .i64 0] 64)) :=
  ⟨h.g.alloc h.g.size _, fun j e => ⟨(h.a j e).1, at_alloc (h.a j e).2⟩, fun j e => by cases e; exact ⟨h.g.size, new_at _ _⟩⟩
theorem Kx.AB (h : Kx W none none w) : Kx W (some w.heap.size) (some (w.heap.size + 1)) ((w.alloc (.cells #[.int .i64 0, .slice none 0 0, .int .i64 0, .int .i64 0, .int .i64 0, .int .i64 0, .int .i64 0, .int .i64 0, .int .i64 0, .slice none 0 0, .int .i64 0, .int .i64 0, .int .i64 0] 37)).alloc (.cells #[.int .i64 0, .int .i64 0] 64)) := by
  have := h.A.B
  simpa using this
theorem Kx.BA (h : Kx W none none w) : Kx W (some (w.heap.size + 1)) (some w.heap.size) ((w.alloc (.cells #[.int .i64 0, .int .i64 0] 64)).alloc (.cells #[.int .i64 0, .slice none 0 0, .int .i64 0, .int .i64 0, .int .i64 0, .int .i64 0, .int .i64 0, .int .i64 0, .int .i64 0, .slice none 0 0, .int .i64 0, .int .i64 0, .int .i64 0] 37)) := by
  have := h.B.A
  simpa using this
theorem Kx.AD (h : Kx W none b w) : Kx W (some w.heap.size) b (w.drew.alloc (.cells #[.int .i64 0, .slice none 0 0, .int .i64 0, .int .i64 0, .int .i64 0, .int .i64 0, .int .i64 0, .int .i64 0, .int .i64 0, .slice none 0 0, .int .i64 0, .int .i64 0, .int .i64 0] 37)) := h.drew.A
theorem Kx.BD (h : Kx W a none w) : Kx W a (some w.heap.size) (w.drew.alloc (.cells #[.int .i64 0, .int .i64 0] 64)) := h.drew.B
theorem Kx.ABD (h : Kx W none none w) : Kx W (some w.heap.size) (some (w.heap.size + 1)) ((w.drew.alloc (.cells #[.int .i64 0, .slice none 0 0, .int .i64 0, .int .i64 0, .int .i64 0, .int .i64 0, .int .i64 0, .int .i64 0, .int .i64 0, .slice none 0 0, .int .i64 0, .int .i64 0, .int .i64 0] 37)).alloc (.cells #[.int .i64 0, .int .i64 0] 64)) := h.drew.AB
theorem Kx.BAD (h : Kx W none none w) : Kx W (some (w.heap.size + 1)) (some w.heap.size) ((w.drew.alloc (.cells #[.int .i64 0, .int .i64 0] 64)).alloc (.cells #[.int .i64 0, .slice none 0 0, .int .i64 0, .int .i64 0, .int .i64 0, .int .i64 0, .int .i64 0, .int .i64 0, .int .i64 0, .slice none 0 0, .int .i64 0, .int .i64 0, .int .i64 0] 37)) := h.drew.BA
theorem Kx.call (h : Kx W a b w) (g : Below w.heap.size w w') : Kx W a b w' :=
  ⟨h.g.trans (g.mono h.g.size), fun j e => ⟨(h.a j e).1, at_below (h.a j e).2 g⟩, fun j e => ⟨(h.b j e).1, at_below (h.b j e).2 g⟩⟩
theorem Kx.ne {k j : Nat} (h : Kx W (some k) (some j) w) : k ≠ j := by
  rintro rfl
  have h1 := (h.a k rfl).2
  rw [(h.b k rfl).2] at h1
  cases h1
end

theorem setAll_size (g : Nat) : ∀ (vs : List Value) (i : Nat) (w : World), (setAll w g i vs).heap.size = w.heap.size
  | [], i, w => rfl
  | v :: vs, i, w => by
    rw [setAll, setAll_size g vs]
    simp
theorem end1 {W w1 : World} {k : Nat} {cs : Array Value} {T : TypeId} (vs : List Value) (q : w1.heap[k]? = some (.cells cs T (0, 0))) (l : cs.toList.length = vs.length) (hk : W.heap.size ≤ k) (hb : Below W.heap.size W w1) :
    (setAll w1 k 0 vs).heap[k]? = some (.cells vs.toArray T (0, 0)) ∧ Below W.heap.size W (setAll w1 k 0 vs) ∧ w1.grownBy (setAll w1 k 0 vs) (some k) ∧ (setAll w1 k 0 vs).heap.size = w1.heap.size := by
  obtain ⟨c1, e1, e2⟩ := setAll_row k T vs 0 w1 cs [] cs.toList [] q (by simp) rfl l
  have t1 : c1 = vs.toArray := by rw [← Array.toList_inj]; simpa using e2
  rw [t1] at e1
  exact ⟨e1, setAll_below hk _ _ _ _ hb, gsA k vs 0 w1 w1 (World.grownBy.refl _ _), setAll_size k vs 0 w1⟩
theorem new_atN {w : World} {n : Nat} (h : w.heap.size = n) (o : Obj) : (w.alloc o).heap[n]? = some o := by
  subst h
  exact new_at _ _

set_option maxRecDepth 100000 in
set_option maxHeartbeats 60000000 in
theorem knownK (w : World) (hg : Gl w) (htab : w.cell? ⟨7, 15, none⟩ = some (.int .u8 4)) :
    Calls Tryd.prog 23 #[] w fun e w' => e = .returned (.bool true) ∧ Below w.heap.size w w' := by
  obtain ⟨W, hW⟩ : ∃ W, (w.alloc (.cells #[.int .i64 2] 3)).alloc (.cells #[.slice none 0 0, .slice (some ⟨w.heap.size, 0, none⟩) 1 1, .int .i64 9] 58) = W := ⟨_, rfl⟩
  have hbW : Below w.heap.size w W := by rw [← hW]; exact (below_alloc _ _).alloc (by simp) _
  have sW : W.heap.size = w.heap.size + 2 := by rw [← hW]; simp
  have n0 : W.heap[w.heap.size]? = some (.cells #[.int .i64 2] 3 (0, 0)) := by rw [← hW]; exact at_alloc (new_at _ _)
  have n1 : W.heap[w.heap.size + 1]? = some (.cells #[.slice none 0 0, .slice (some ⟨w.heap.size, 0, none⟩) 1 1, .int .i64 9] 58 (0, 0)) := by rw [← hW]; exact K.new_at1 _ _ _
  have hp : PolIs ⟨[], [2], 9⟩ (.slice none 0 0) (.slice (some ⟨w.heap.size, 0, none⟩) 1 1) W := by
    refine ⟨⟨none, 0, rfl, fun h => by cases h⟩, ⟨some ⟨w.heap.size, 0, none⟩, 1, rfl, fun _ => ⟨w.heap.size, 0, rfl, fun j u hj => ?_⟩⟩, by simp, by simp, by simp⟩
    rw [cellsAt n0]
    match j, hj with
    | 0, hj => simpa [icells] using hj
    | j + 1, hj => simp [icells] at hj
  have CI := Lib.hid (fun (x : World) (h : Below W.heap.size W x) => inspectW ⟨[], [2], 9⟩ (.slice none 0 0) (.slice (some ⟨w.heap.size, 0, none⟩) 1 1) smallL 9000 x (by rw [small_is]; omega) (by omega) (hp.on h) ((hg.on hbW).on h) (((hbW.trans (h.mono hbW.size)).cell (p := ⟨7, 15, none⟩) (cell_lt htab)).trans htab) _ _ _ _ small_insp)
  have CP := Lib.hid (fun (x : World) (h : Below W.heap.size W x) => publicW ⟨[], [2], 9⟩ (.slice none 0 0) (.slice (some ⟨w.heap.size, 0, none⟩) 1 1) smallL x (by rw [small_is]; omega) (hp.on h) ((hg.on hbW).on h) (((hbW.trans (h.mono hbW.size)).cell (p := ⟨7, 15, none⟩) (cell_lt htab)).trans htab) _ _ small_pub)
  have CS := Lib.hid (fun (x : World) => K.smallK x)
  have y0 := cellsAt n1 0
  have y1 := cellsAt n1 1
  have y2 := cellsAt n1 2
  simp only [List.getElem?_toArray, List.getElem?_cons_zero, List.getElem?_cons_succ] at y0 y1 y2
  unfold pv strV at CI CP
  simp only [Rep.val, smallR, List.length_cons, List.length_nil, Nat.zero_add, Nat.reduceAdd] at CI
  have hne8 : ∀ j, W.heap.size ≤ j → ¬ (j = w.heap.size + 1) := fun j a b => by omega
  have hne9 : ∀ j, W.heap.size ≤ j → ¬ (w.heap.size + 1 = j) := fun j a b => by omega
  have hx8 : ∀ j, W.heap.size ≤ j → ¬ (j = w.heap.size) := fun j a b => by omega
  have hx9 : ∀ j, W.heap.size ≤ j → ¬ (w.heap.size = j) := fun j a b => by omega
  have sl : (⟨smallL.toArray⟩ : ByteArray).size = 62 := by kernel_rfl
  have sb : smallL.length = 62 := small_is
  generalize smallL = SL at *
  clear hp hg htab n0 sW
  go_enter Tryd.func23, Tryd.ntmps23
  go_upto_region 2 with fail
  go_cut [2, 3, 4] (fun s2 s3 s4 wx => ∃ (kk jj : Nat) (ta na : Option Addr) (tc nc : Nat), s2 = .pointer (some ⟨kk, 0, none⟩) ∧ s3 = .pointer (some ⟨jj, 0, none⟩) ∧ s4 = .int .i64 0 ∧ Below W.heap.size W wx ∧ wx.heap[kk]? = some (.cells #[.int .i64 1, .slice ta 1 tc, .int .i64 8, .int .i64 0, .int .i64 0, .int .i64 8, .int .i64 0, .int .i64 0, .int .i64 0, .slice na 2 nc, .int .i64 8, .int .i64 0, .int .i64 0] 37 (0, 0)) ∧ wx.ownsRow W.heap.size 79 7 (.slice na 2 nc) 2 (ncells [⟨1, 0, 0, 1, 0, 0, ⟨#[97, 98]⟩⟩, ⟨1, 0, 0, 2, 4, 0, ⟨#[]⟩⟩]))
  case first =>
    clear CP sl sb hbW hW
    have N0 := Kx.start (W := W)
    go_region_held3 (fun w' => w'.cell? ⟨w.heap.size + 1, 0, none⟩ = some (.slice none 0 0) ∧ w'.cell? ⟨w.heap.size + 1, 1, none⟩ = some (.slice (some ⟨w.heap.size, 0, none⟩) 1 1) ∧ w'.cell? ⟨w.heap.size + 1, 2, none⟩ = some (.int .i64 9)) (go_keep) (first
      | (go_at_call 25; refine (CI.out _ (N1).g).mono ?_; rintro e w2 ⟨VA, VB, rfl, oA, oB, hb2⟩; obtain ⟨ta, tc, hVA⟩ := own_slice oA; subst hVA; obtain ⟨na, nc, hVB⟩ := own_slice oB; subst hVB; have oB1 := own_lower oB (N1).g.size; have N2 := (N1).call hb2; clear oA oB; have zz2 := at_below n1 N2.g; have qz20 := cellsAt zz2 0; have qz21 := cellsAt zz2 1; have qz22 := cellsAt zz2 2; simp only [List.getElem?_toArray, List.getElem?_cons_zero, List.getElem?_cons_succ] at qz20 qz21 qz22; clear zz2; (try (have ha9 := (N2.a _ rfl).1; have ha8 := hne8 _ ha9; have ha7 := hne9 _ ha9; have za := (N2.a _ rfl).2; have ca0 := cellsAt za 0; have fa0 := frozenAt za 0; have ca1 := cellsAt za 1; have fa1 := frozenAt za 1; have ca2 := cellsAt za 2; have fa2 := frozenAt za 2; have ca3 := cellsAt za 3; have fa3 := frozenAt za 3; have ca4 := cellsAt za 4; have fa4 := frozenAt za 4; have ca5 := cellsAt za 5; have fa5 := frozenAt za 5; have ca6 := cellsAt za 6; have fa6 := frozenAt za 6; have ca7 := cellsAt za 7; have fa7 := frozenAt za 7; have ca8 := cellsAt za 8; have fa8 := frozenAt za 8; have ca9 := cellsAt za 9; have fa9 := frozenAt za 9; have ca10 := cellsAt za 10; have fa10 := frozenAt za 10; have ca11 := cellsAt za 11; have fa11 := frozenAt za 11; have ca12 := cellsAt za 12; have fa12 := frozenAt za 12; simp only [List.getElem?_toArray, List.getElem?_cons_zero, List.getElem?_cons_succ] at ca0 ca1 ca2 ca3 ca4 ca5 ca6 ca7 ca8 ca9 ca10 ca11 ca12)); (try (have hno : Kx W _ none w2 := N2; clear hno; have hl9 := at_lt za; have nl8 := Nat.ne_of_lt hl9; have nl7 := (Nat.ne_of_lt hl9).symm; have zaa := at_alloc (q := .cells #[.int .i64 0, .int .i64 0] 64) za; have da0 := cellsAt zaa 0; have ea0 := frozenAt zaa 0; have da1 := cellsAt zaa 1; have ea1 := frozenAt zaa 1; have da2 := cellsAt zaa 2; have ea2 := frozenAt zaa 2; have da3 := cellsAt zaa 3; have ea3 := frozenAt zaa 3; have da4 := cellsAt zaa 4; have ea4 := frozenAt zaa 4; have da5 := cellsAt zaa 5; have ea5 := frozenAt zaa 5; have da6 := cellsAt zaa 6; have ea6 := frozenAt zaa 6; have da7 := cellsAt zaa 7; have ea7 := frozenAt zaa 7; have da8 := cellsAt zaa 8; have ea8 := frozenAt zaa 8; have da9 := cellsAt zaa 9; have ea9 := frozenAt zaa 9; have da10 := cellsAt zaa 10; have ea10 := frozenAt zaa 10; have da11 := cellsAt zaa 11; have ea11 := frozenAt zaa 11; have da12 := cellsAt zaa 12; have ea12 := frozenAt zaa 12; simp only [List.getElem?_toArray, List.getElem?_cons_zero, List.getElem?_cons_succ] at da0 da1 da2 da3 da4 da5 da6 da7 da8 da9 da10 da11 da12)); (try (have hb9 := (N2.b _ rfl).1; have hb8 := hne8 _ hb9; have hb7 := hne9 _ hb9; have zb := (N2.b _ rfl).2; have cb0 := cellsAt zb 0; have cb1 := cellsAt zb 1; have fb0 := frozenAt zb 0; have fb1 := frozenAt zb 1; simp only [List.getElem?_toArray, List.getElem?_cons_zero, List.getElem?_cons_succ] at cb0 cb1)); (try (have hno : Kx W none _ w2 := N2; clear hno; have hl9 := at_lt zb; have nl8 := Nat.ne_of_lt hl9; have nl7 := (Nat.ne_of_lt hl9).symm; have zbb := at_alloc (q := .cells #[.int .i64 1, .slice ta 1 tc, .int .i64 8, .int .i64 0, .int .i64 0, .int .i64 8, .int .i64 0, .int .i64 0, .int .i64 0, .slice na 2 nc, .int .i64 8, .int .i64 0, .int .i64 0] 37) zb; have db0 := cellsAt zbb 0; have db1 := cellsAt zbb 1; have eb0 := frozenAt zbb 0; have eb1 := frozenAt zbb 1; simp only [List.getElem?_toArray, List.getElem?_cons_zero, List.getElem?_cons_succ] at db0 db1)); (try (have hn1 := N2.ne; have hn2 := hn1.symm)); have hs8 := hne8 _ N2.g.size; have hs7 := hne9 _ N2.g.size; have ht8 := hne8 _ (Nat.le_succ_of_le N2.g.size); have ht7 := hne9 _ (Nat.le_succ_of_le N2.g.size); simp only [Nat.succ_eq_add_one, Nat.add_eq] at ht8 ht7; have s8 := hx8 _ N1.g.size; have s7 := hx9 _ N1.g.size; have s6 := hx8 _ N2.g.size; have s5 := hx9 _ N2.g.size; have s4 := hx8 _ (Nat.le_refl W.heap.size); have s3 := hx9 _ (Nat.le_refl W.heap.size); clear hb2; (try clear y0 y1 y2); (try clear qz10 qz11 qz12); (try clear hne8 hne9 hx8 hx9); (try clear CI); (try clear CS); (try clear za); (try clear zaa); (try clear zb); (try clear zbb); (try clear hb1); (try clear n1); (try clear N1))
      | (go_at_call 25; refine (CI.out _ (N1.A).g).mono ?_; rintro e w2 ⟨VA, VB, rfl, oA, oB, hb2⟩; obtain ⟨ta, tc, hVA⟩ := own_slice oA; subst hVA; obtain ⟨na, nc, hVB⟩ := own_slice oB; subst hVB; have oB1 := own_lower oB (N1.A).g.size; have N2 := (N1.A).call hb2; clear oA oB; have zz2 := at_below n1 N2.g; have qz20 := cellsAt zz2 0; have qz21 := cellsAt zz2 1; have qz22 := cellsAt zz2 2; simp only [List.getElem?_toArray, List.getElem?_cons_zero, List.getElem?_cons_succ] at qz20 qz21 qz22; clear zz2; (try (have ha9 := (N2.a _ rfl).1; have ha8 := hne8 _ ha9; have ha7 := hne9 _ ha9; have za := (N2.a _ rfl).2; have ca0 := cellsAt za 0; have fa0 := frozenAt za 0; have ca1 := cellsAt za 1; have fa1 := frozenAt za 1; have ca2 := cellsAt za 2; have fa2 := frozenAt za 2; have ca3 := cellsAt za 3; have fa3 := frozenAt za 3; have ca4 := cellsAt za 4; have fa4 := frozenAt za 4; have ca5 := cellsAt za 5; have fa5 := frozenAt za 5; have ca6 := cellsAt za 6; have fa6 := frozenAt za 6; have ca7 := cellsAt za 7; have fa7 := frozenAt za 7; have ca8 := cellsAt za 8; have fa8 := frozenAt za 8; have ca9 := cellsAt za 9; have fa9 := frozenAt za 9; have ca10 := cellsAt za 10; have fa10 := frozenAt za 10; have ca11 := cellsAt za 11; have fa11 := frozenAt za 11; have ca12 := cellsAt za 12; have fa12 := frozenAt za 12; simp only [List.getElem?_toArray, List.getElem?_cons_zero, List.getElem?_cons_succ] at ca0 ca1 ca2 ca3 ca4 ca5 ca6 ca7 ca8 ca9 ca10 ca11 ca12)); (try (have hno : Kx W _ none w2 := N2; clear hno; have hl9 := at_lt za; have nl8 := Nat.ne_of_lt hl9; have nl7 := (Nat.ne_of_lt hl9).symm; have zaa := at_alloc (q := .cells #[.int .i64 0, .int .i64 0] 64) za; have da0 := cellsAt zaa 0; have ea0 := frozenAt zaa 0; have da1 := cellsAt zaa 1; have ea1 := frozenAt zaa 1; have da2 := cellsAt zaa 2; have ea2 := frozenAt zaa 2; have da3 := cellsAt zaa 3; have ea3 := frozenAt zaa 3; have da4 := cellsAt zaa 4; have ea4 := frozenAt zaa 4; have da5 := cellsAt zaa 5; have ea5 := frozenAt zaa 5; have da6 := cellsAt zaa 6; have ea6 := frozenAt zaa 6; have da7 := cellsAt zaa 7; have ea7 := frozenAt zaa 7; have da8 := cellsAt zaa 8; have ea8 := frozenAt zaa 8; have da9 := cellsAt zaa 9; have ea9 := frozenAt zaa 9; have da10 := cellsAt zaa 10; have ea10 := frozenAt zaa 10; have da11 := cellsAt zaa 11; have ea11 := frozenAt zaa 11; have da12 := cellsAt zaa 12; have ea12 := frozenAt zaa 12; simp only [List.getElem?_toArray, List.getElem?_cons_zero, List.getElem?_cons_succ] at da0 da1 da2 da3 da4 da5 da6 da7 da8 da9 da10 da11 da12)); (try (have hb9 := (N2.b _ rfl).1; have hb8 := hne8 _ hb9; have hb7 := hne9 _ hb9; have zb := (N2.b _ rfl).2; have cb0 := cellsAt zb 0; have cb1 := cellsAt zb 1; have fb0 := frozenAt zb 0; have fb1 := frozenAt zb 1; simp only [List.getElem?_toArray, List.getElem?_cons_zero, List.getElem?_cons_succ] at cb0 cb1)); (try (have hno : Kx W none _ w2 := N2; clear hno; have hl9 := at_lt zb; have nl8 := Nat.ne_of_lt hl9; have nl7 := (Nat.ne_of_lt hl9).symm; have zbb := at_alloc (q := .cells #[.int .i64 1, .slice ta 1 tc, .int .i64 8, .int .i64 0, .int .i64 0, .int .i64 8, .int .i64 0, .int .i64 0, .int .i64 0, .slice na 2 nc, .int .i64 8, .int .i64 0, .int .i64 0] 37) zb; have db0 := cellsAt zbb 0; have db1 := cellsAt zbb 1; have eb0 := frozenAt zbb 0; have eb1 := frozenAt zbb 1; simp only [List.getElem?_toArray, List.getElem?_cons_zero, List.getElem?_cons_succ] at db0 db1)); (try (have hn1 := N2.ne; have hn2 := hn1.symm)); have hs8 := hne8 _ N2.g.size; have hs7 := hne9 _ N2.g.size; have ht8 := hne8 _ (Nat.le_succ_of_le N2.g.size); have ht7 := hne9 _ (Nat.le_succ_of_le N2.g.size); simp only [Nat.succ_eq_add_one, Nat.add_eq] at ht8 ht7; have s8 := hx8 _ N1.g.size; have s7 := hx9 _ N1.g.size; have s6 := hx8 _ N2.g.size; have s5 := hx9 _ N2.g.size; have s4 := hx8 _ (Nat.le_refl W.heap.size); have s3 := hx9 _ (Nat.le_refl W.heap.size); clear hb2; (try clear y0 y1 y2); (try clear qz10 qz11 qz12); (try clear hne8 hne9 hx8 hx9); (try clear CI); (try clear CS); (try clear za); (try clear zaa); (try clear zb); (try clear zbb); (try clear hb1); (try clear n1); (try clear N1))
      | (go_at_call 25; refine (CI.out _ (N1.B).g).mono ?_; rintro e w2 ⟨VA, VB, rfl, oA, oB, hb2⟩; obtain ⟨ta, tc, hVA⟩ := own_slice oA; subst hVA; obtain ⟨na, nc, hVB⟩ := own_slice oB; subst hVB; have oB1 := own_lower oB (N1.B).g.size; have N2 := (N1.B).call hb2; clear oA oB; have zz2 := at_below n1 N2.g; have qz20 := cellsAt zz2 0; have qz21 := cellsAt zz2 1; have qz22 := cellsAt zz2 2; simp only [List.getElem?_toArray, List.getElem?_cons_zero, List.getElem?_cons_succ] at qz20 qz21 qz22; clear zz2; (try (have ha9 := (N2.a _ rfl).1; have ha8 := hne8 _ ha9; have ha7 := hne9 _ ha9; have za := (N2.a _ rfl).2; have ca0 := cellsAt za 0; have fa0 := frozenAt za 0; have ca1 := cellsAt za 1; have fa1 := frozenAt za 1; have ca2 := cellsAt za 2; have fa2 := frozenAt za 2; have ca3 := cellsAt za 3; have fa3 := frozenAt za 3; have ca4 := cellsAt za 4; have fa4 := frozenAt za 4; have ca5 := cellsAt za 5; have fa5 := frozenAt za 5; have ca6 := cellsAt za 6; have fa6 := frozenAt za 6; have ca7 := cellsAt za 7; have fa7 := frozenAt za 7; have ca8 := cellsAt za 8; have fa8 := frozenAt za 8; have ca9 := cellsAt za 9; have fa9 := frozenAt za 9; have ca10 := cellsAt za 10; have fa10 := frozenAt za 10; have ca11 := cellsAt za 11; have fa11 := frozenAt za 11; have ca12 := cellsAt za 12; have fa12 := frozenAt za 12; simp only [List.getElem?_toArray, List.getElem?_cons_zero, List.getElem?_cons_succ] at ca0 ca1 ca2 ca3 ca4 ca5 ca6 ca7 ca8 ca9 ca10 ca11 ca12)); (try (have hno : Kx W _ none w2 := N2; clear hno; have hl9 := at_lt za; have nl8 := Nat.ne_of_lt hl9; have nl7 := (Nat.ne_of_lt hl9).symm; have zaa := at_alloc (q := .cells #[.int .i64 0, .int .i64 0] 64) za; have da0 := cellsAt zaa 0; have ea0 := frozenAt zaa 0; have da1 := cellsAt zaa 1; have ea1 := frozenAt zaa 1; have da2 := cellsAt zaa 2; have ea2 := frozenAt zaa 2; have da3 := cellsAt zaa 3; have ea3 := frozenAt zaa 3; have da4 := cellsAt zaa 4; have ea4 := frozenAt zaa 4; have da5 := cellsAt zaa 5; have ea5 := frozenAt zaa 5; have da6 := cellsAt zaa 6; have ea6 := frozenAt zaa 6; have da7 := cellsAt zaa 7; have ea7 := frozenAt zaa 7; have da8 := cellsAt zaa 8; have ea8 := frozenAt zaa 8; have da9 := cellsAt zaa 9; have ea9 := frozenAt zaa 9; have da10 := cellsAt zaa 10; have ea10 := frozenAt zaa 10; have da11 := cellsAt zaa 11; have ea11 := frozenAt zaa 11; have da12 := cellsAt zaa 12; have ea12 := frozenAt zaa 12; simp only [List.getElem?_toArray, List.getElem?_cons_zero, List.getElem?_cons_succ] at da0 da1 da2 da3 da4 da5 da6 da7 da8 da9 da10 da11 da12)); (try (have hb9 := (N2.b _ rfl).1; have hb8 := hne8 _ hb9; have hb7 := hne9 _ hb9; have zb := (N2.b _ rfl).2; have cb0 := cellsAt zb 0; have cb1 := cellsAt zb 1; have fb0 := frozenAt zb 0; have fb1 := frozenAt zb 1; simp only [List.getElem?_toArray, List.getElem?_cons_zero, List.getElem?_cons_succ] at cb0 cb1)); (try (have hno : Kx W none _ w2 := N2; clear hno; have hl9 := at_lt zb; have nl8 := Nat.ne_of_lt hl9; have nl7 := (Nat.ne_of_lt hl9).symm; have zbb := at_alloc (q := .cells #[.int .i64 1, .slice ta 1 tc, .int .i64 8, .int .i64 0, .int .i64 0, .int .i64 8, .int .i64 0, .int .i64 0, .int .i64 0, .slice na 2 nc, .int .i64 8, .int .i64 0, .int .i64 0] 37) zb; have db0 := cellsAt zbb 0; have db1 := cellsAt zbb 1; have eb0 := frozenAt zbb 0; have eb1 := frozenAt zbb 1; simp only [List.getElem?_toArray, List.getElem?_cons_zero, List.getElem?_cons_succ] at db0 db1)); (try (have hn1 := N2.ne; have hn2 := hn1.symm)); have hs8 := hne8 _ N2.g.size; have hs7 := hne9 _ N2.g.size; have ht8 := hne8 _ (Nat.le_succ_of_le N2.g.size); have ht7 := hne9 _ (Nat.le_succ_of_le N2.g.size); simp only [Nat.succ_eq_add_one, Nat.add_eq] at ht8 ht7; have s8 := hx8 _ N1.g.size; have s7 := hx9 _ N1.g.size; have s6 := hx8 _ N2.g.size; have s5 := hx9 _ N2.g.size; have s4 := hx8 _ (Nat.le_refl W.heap.size); have s3 := hx9 _ (Nat.le_refl W.heap.size); clear hb2; (try clear y0 y1 y2); (try clear qz10 qz11 qz12); (try clear hne8 hne9 hx8 hx9); (try clear CI); (try clear CS); (try clear za); (try clear zaa); (try clear zb); (try clear zbb); (try clear hb1); (try clear n1); (try clear N1))
      | (go_at_call 25; refine (CI.out _ (N1.AB).g).mono ?_; rintro e w2 ⟨VA, VB, rfl, oA, oB, hb2⟩; obtain ⟨ta, tc, hVA⟩ := own_slice oA; subst hVA; obtain ⟨na, nc, hVB⟩ := own_slice oB; subst hVB; have oB1 := own_lower oB (N1.AB).g.size; have N2 := (N1.AB).call hb2; clear oA oB; have zz2 := at_below n1 N2.g; have qz20 := cellsAt zz2 0; have qz21 := cellsAt zz2 1; have qz22 := cellsAt zz2 2; simp only [List.getElem?_toArray, List.getElem?_cons_zero, List.getElem?_cons_succ] at qz20 qz21 qz22; clear zz2; (try (have ha9 := (N2.a _ rfl).1; have ha8 := hne8 _ ha9; have ha7 := hne9 _ ha9; have za := (N2.a _ rfl).2; have ca0 := cellsAt za 0; have fa0 := frozenAt za 0; have ca1 := cellsAt za 1; have fa1 := frozenAt za 1; have ca2 := cellsAt za 2; have fa2 := frozenAt za 2; have ca3 := cellsAt za 3; have fa3 := frozenAt za 3; have ca4 := cellsAt za 4; have fa4 := frozenAt za 4; have ca5 := cellsAt za 5; have fa5 := frozenAt za 5; have ca6 := cellsAt za 6; have fa6 := frozenAt za 6; have ca7 := cellsAt za 7; have fa7 := frozenAt za 7; have ca8 := cellsAt za 8; have fa8 := frozenAt za 8; have ca9 := cellsAt za 9; have fa9 := frozenAt za 9; have ca10 := cellsAt za 10; have fa10 := frozenAt za 10; have ca11 := cellsAt za 11; have fa11 := frozenAt za 11; have ca12 := cellsAt za 12; have fa12 := frozenAt za 12; simp only [List.getElem?_toArray, List.getElem?_cons_zero, List.getElem?_cons_succ] at ca0 ca1 ca2 ca3 ca4 ca5 ca6 ca7 ca8 ca9 ca10 ca11 ca12)); (try (have hno : Kx W _ none w2 := N2; clear hno; have hl9 := at_lt za; have nl8 := Nat.ne_of_lt hl9; have nl7 := (Nat.ne_of_lt hl9).symm; have zaa := at_alloc (q := .cells #[.int .i64 0, .int .i64 0] 64) za; have da0 := cellsAt zaa 0; have ea0 := frozenAt zaa 0; have da1 := cellsAt zaa 1; have ea1 := frozenAt zaa 1; have da2 := cellsAt zaa 2; have ea2 := frozenAt zaa 2; have da3 := cellsAt zaa 3; have ea3 := frozenAt zaa 3; have da4 := cellsAt zaa 4; have ea4 := frozenAt zaa 4; have da5 := cellsAt zaa 5; have ea5 := frozenAt zaa 5; have da6 := cellsAt zaa 6; have ea6 := frozenAt zaa 6; have da7 := cellsAt zaa 7; have ea7 := frozenAt zaa 7; have da8 := cellsAt zaa 8; have ea8 := frozenAt zaa 8; have da9 := cellsAt zaa 9; have ea9 := frozenAt zaa 9; have da10 := cellsAt zaa 10; have ea10 := frozenAt zaa 10; have da11 := cellsAt zaa 11; have ea11 := frozenAt zaa 11; have da12 := cellsAt zaa 12; have ea12 := frozenAt zaa 12; simp only [List.getElem?_toArray, List.getElem?_cons_zero, List.getElem?_cons_succ] at da0 da1 da2 da3 da4 da5 da6 da7 da8 da9 da10 da11 da12)); (try (have hb9 := (N2.b _ rfl).1; have hb8 := hne8 _ hb9; have hb7 := hne9 _ hb9; have zb := (N2.b _ rfl).2; have cb0 := cellsAt zb 0; have cb1 := cellsAt zb 1; have fb0 := frozenAt zb 0; have fb1 := frozenAt zb 1; simp only [List.getElem?_toArray, List.getElem?_cons_zero, List.getElem?_cons_succ] at cb0 cb1)); (try (have hno : Kx W none _ w2 := N2; clear hno; have hl9 := at_lt zb; have nl8 := Nat.ne_of_lt hl9; have nl7 := (Nat.ne_of_lt hl9).symm; have zbb := at_alloc (q := .cells #[.int .i64 1, .slice ta 1 tc, .int .i64 8, .int .i64 0, .int .i64 0, .int .i64 8, .int .i64 0, .int .i64 0, .int .i64 0, .slice na 2 nc, .int .i64 8, .int .i64 0, .int .i64 0] 37) zb; have db0 := cellsAt zbb 0; have db1 := cellsAt zbb 1; have eb0 := frozenAt zbb 0; have eb1 := frozenAt zbb 1; simp only [List.getElem?_toArray, List.getElem?_cons_zero, List.getElem?_cons_succ] at db0 db1)); (try (have hn1 := N2.ne; have hn2 := hn1.symm)); have hs8 := hne8 _ N2.g.size; have hs7 := hne9 _ N2.g.size; have ht8 := hne8 _ (Nat.le_succ_of_le N2.g.size); have ht7 := hne9 _ (Nat.le_succ_of_le N2.g.size); simp only [Nat.succ_eq_add_one, Nat.add_eq] at ht8 ht7; have s8 := hx8 _ N1.g.size; have s7 := hx9 _ N1.g.size; have s6 := hx8 _ N2.g.size; have s5 := hx9 _ N2.g.size; have s4 := hx8 _ (Nat.le_refl W.heap.size); have s3 := hx9 _ (Nat.le_refl W.heap.size); clear hb2; (try clear y0 y1 y2); (try clear qz10 qz11 qz12); (try clear hne8 hne9 hx8 hx9); (try clear CI); (try clear CS); (try clear za); (try clear zaa); (try clear zb); (try clear zbb); (try clear hb1); (try clear n1); (try clear N1))
      | (go_at_call 25; refine (CI.out _ (N1.BA).g).mono ?_; rintro e w2 ⟨VA, VB, rfl, oA, oB, hb2⟩; obtain ⟨ta, tc, hVA⟩ := own_slice oA; subst hVA; obtain ⟨na, nc, hVB⟩ := own_slice oB; subst hVB; have oB1 := own_lower oB (N1.BA).g.size; have N2 := (N1.BA).call hb2; clear oA oB; have zz2 := at_below n1 N2.g; have qz20 := cellsAt zz2 0; have qz21 := cellsAt zz2 1; have qz22 := cellsAt zz2 2; simp only [List.getElem?_toArray, List.getElem?_cons_zero, List.getElem?_cons_succ] at qz20 qz21 qz22; clear zz2; (try (have ha9 := (N2.a _ rfl).1; have ha8 := hne8 _ ha9; have ha7 := hne9 _ ha9; have za := (N2.a _ rfl).2; have ca0 := cellsAt za 0; have fa0 := frozenAt za 0; have ca1 := cellsAt za 1; have fa1 := frozenAt za 1; have ca2 := cellsAt za 2; have fa2 := frozenAt za 2; have ca3 := cellsAt za 3; have fa3 := frozenAt za 3; have ca4 := cellsAt za 4; have fa4 := frozenAt za 4; have ca5 := cellsAt za 5; have fa5 := frozenAt za 5; have ca6 := cellsAt za 6; have fa6 := frozenAt za 6; have ca7 := cellsAt za 7; have fa7 := frozenAt za 7; have ca8 := cellsAt za 8; have fa8 := frozenAt za 8; have ca9 := cellsAt za 9; have fa9 := frozenAt za 9; have ca10 := cellsAt za 10; have fa10 := frozenAt za 10; have ca11 := cellsAt za 11; have fa11 := frozenAt za 11; have ca12 := cellsAt za 12; have fa12 := frozenAt za 12; simp only [List.getElem?_toArray, List.getElem?_cons_zero, List.getElem?_cons_succ] at ca0 ca1 ca2 ca3 ca4 ca5 ca6 ca7 ca8 ca9 ca10 ca11 ca12)); (try (have hno : Kx W _ none w2 := N2; clear hno; have hl9 := at_lt za; have nl8 := Nat.ne_of_lt hl9; have nl7 := (Nat.ne_of_lt hl9).symm; have zaa := at_alloc (q := .cells #[.int .i64 0, .int .i64 0] 64) za; have da0 := cellsAt zaa 0; have ea0 := frozenAt zaa 0; have da1 := cellsAt zaa 1; have ea1 := frozenAt zaa 1; have da2 := cellsAt zaa 2; have ea2 := frozenAt zaa 2; have da3 := cellsAt zaa 3; have ea3 := frozenAt zaa 3; have da4 := cellsAt zaa 4; have ea4 := frozenAt zaa 4; have da5 := cellsAt zaa 5; have ea5 := frozenAt zaa 5; have da6 := cellsAt zaa 6; have ea6 := frozenAt zaa 6; have da7 := cellsAt zaa 7; have ea7 := frozenAt zaa 7; have da8 := cellsAt zaa 8; have ea8 := frozenAt zaa 8; have da9 := cellsAt zaa 9; have ea9 := frozenAt zaa 9; have da10 := cellsAt zaa 10; have ea10 := frozenAt zaa 10; have da11 := cellsAt zaa 11; have ea11 := frozenAt zaa 11; have da12 := cellsAt zaa 12; have ea12 := frozenAt zaa 12; simp only [List.getElem?_toArray, List.getElem?_cons_zero, List.getElem?_cons_succ] at da0 da1 da2 da3 da4 da5 da6 da7 da8 da9 da10 da11 da12)); (try (have hb9 := (N2.b _ rfl).1; have hb8 := hne8 _ hb9; have hb7 := hne9 _ hb9; have zb := (N2.b _ rfl).2; have cb0 := cellsAt zb 0; have cb1 := cellsAt zb 1; have fb0 := frozenAt zb 0; have fb1 := frozenAt zb 1; simp only [List.getElem?_toArray, List.getElem?_cons_zero, List.getElem?_cons_succ] at cb0 cb1)); (try (have hno : Kx W none _ w2 := N2; clear hno; have hl9 := at_lt zb; have nl8 := Nat.ne_of_lt hl9; have nl7 := (Nat.ne_of_lt hl9).symm; have zbb := at_alloc (q := .cells #[.int .i64 1, .slice ta 1 tc, .int .i64 8, .int .i64 0, .int .i64 0, .int .i64 8, .int .i64 0, .int .i64 0, .int .i64 0, .slice na 2 nc, .int .i64 8, .int .i64 0, .int .i64 0] 37) zb; have db0 := cellsAt zbb 0; have db1 := cellsAt zbb 1; have eb0 := frozenAt zbb 0; have eb1 := frozenAt zbb 1; simp only [List.getElem?_toArray, List.getElem?_cons_zero, List.getElem?_cons_succ] at db0 db1)); (try (have hn1 := N2.ne; have hn2 := hn1.symm)); have hs8 := hne8 _ N2.g.size; have hs7 := hne9 _ N2.g.size; have ht8 := hne8 _ (Nat.le_succ_of_le N2.g.size); have ht7 := hne9 _ (Nat.le_succ_of_le N2.g.size); simp only [Nat.succ_eq_add_one, Nat.add_eq] at ht8 ht7; have s8 := hx8 _ N1.g.size; have s7 := hx9 _ N1.g.size; have s6 := hx8 _ N2.g.size; have s5 := hx9 _ N2.g.size; have s4 := hx8 _ (Nat.le_refl W.heap.size); have s3 := hx9 _ (Nat.le_refl W.heap.size); clear hb2; (try clear y0 y1 y2); (try clear qz10 qz11 qz12); (try clear hne8 hne9 hx8 hx9); (try clear CI); (try clear CS); (try clear za); (try clear zaa); (try clear zb); (try clear zbb); (try clear hb1); (try clear n1); (try clear N1))
      | (go_at_call 47; refine (CS.out _).mono ?_; rintro e w1 ⟨rfl, hb1⟩; have N1 := (N0.drew).call hb1; have zz1 := at_below n1 N1.g; have qz10 := cellsAt zz1 0; have qz11 := cellsAt zz1 1; have qz12 := cellsAt zz1 2; simp only [List.getElem?_toArray, List.getElem?_cons_zero, List.getElem?_cons_succ] at qz10 qz11 qz12; clear zz1)
      | (go_at_call 47; refine (CS.out _).mono ?_; rintro e w1 ⟨rfl, hb1⟩; have N1 := (N0.AD).call hb1; have zz1 := at_below n1 N1.g; have qz10 := cellsAt zz1 0; have qz11 := cellsAt zz1 1; have qz12 := cellsAt zz1 2; simp only [List.getElem?_toArray, List.getElem?_cons_zero, List.getElem?_cons_succ] at qz10 qz11 qz12; clear zz1)
      | (go_at_call 47; refine (CS.out _).mono ?_; rintro e w1 ⟨rfl, hb1⟩; have N1 := (N0.BD).call hb1; have zz1 := at_below n1 N1.g; have qz10 := cellsAt zz1 0; have qz11 := cellsAt zz1 1; have qz12 := cellsAt zz1 2; simp only [List.getElem?_toArray, List.getElem?_cons_zero, List.getElem?_cons_succ] at qz10 qz11 qz12; clear zz1)
      | (go_at_call 47; refine (CS.out _).mono ?_; rintro e w1 ⟨rfl, hb1⟩; have N1 := (N0.ABD).call hb1; have zz1 := at_below n1 N1.g; have qz10 := cellsAt zz1 0; have qz11 := cellsAt zz1 1; have qz12 := cellsAt zz1 2; simp only [List.getElem?_toArray, List.getElem?_cons_zero, List.getElem?_cons_succ] at qz10 qz11 qz12; clear zz1)
      | (go_at_call 47; refine (CS.out _).mono ?_; rintro e w1 ⟨rfl, hb1⟩; have N1 := (N0.BAD).call hb1; have zz1 := at_below n1 N1.g; have qz10 := cellsAt zz1 0; have qz11 := cellsAt zz1 1; have qz12 := cellsAt zz1 2; simp only [List.getElem?_toArray, List.getElem?_cons_zero, List.getElem?_cons_succ] at qz10 qz11 qz12; clear zz1)
      | (go_at_call 47; refine (CS.out _).mono ?_; rintro e w1 ⟨rfl, hb1⟩; have N1 := (N0.A.drew).call hb1; have zz1 := at_below n1 N1.g; have qz10 := cellsAt zz1 0; have qz11 := cellsAt zz1 1; have qz12 := cellsAt zz1 2; simp only [List.getElem?_toArray, List.getElem?_cons_zero, List.getElem?_cons_succ] at qz10 qz11 qz12; clear zz1)
      | (go_at_call 47; refine (CS.out _).mono ?_; rintro e w1 ⟨rfl, hb1⟩; have N1 := (N0.B.drew).call hb1; have zz1 := at_below n1 N1.g; have qz10 := cellsAt zz1 0; have qz11 := cellsAt zz1 1; have qz12 := cellsAt zz1 2; simp only [List.getElem?_toArray, List.getElem?_cons_zero, List.getElem?_cons_succ] at qz10 qz11 qz12; clear zz1)
      | (go_at_call 47; refine (CS.out _).mono ?_; rintro e w1 ⟨rfl, hb1⟩; have N1 := (N0.AB.drew).call hb1; have zz1 := at_below n1 N1.g; have qz10 := cellsAt zz1 0; have qz11 := cellsAt zz1 1; have qz12 := cellsAt zz1 2; simp only [List.getElem?_toArray, List.getElem?_cons_zero, List.getElem?_cons_succ] at qz10 qz11 qz12; clear zz1)
      | (go_at_call 47; refine (CS.out _).mono ?_; rintro e w1 ⟨rfl, hb1⟩; have N1 := (N0.BA.drew).call hb1; have zz1 := at_below n1 N1.g; have qz10 := cellsAt zz1 0; have qz11 := cellsAt zz1 1; have qz12 := cellsAt zz1 2; simp only [List.getElem?_toArray, List.getElem?_cons_zero, List.getElem?_cons_succ] at qz10 qz11 qz12; clear zz1))
    all_goals (
      go_wp2_with fail
      go_meet
      first
        | (have hno : Kx W none none w2 := N2
           clear hno
           first
             | (refine ⟨w2.heap.size, _, ta, na, tc, nc, by with_reducible rfl, rfl, rfl, ?_, ?_, ?_⟩
                · exact (N2.g.alloc N2.g.size _).alloc (by have := N2.g.size; simp; omega) _
                · exact at_alloc (new_at _ _)
                · exact own_any (own_any oB1 (below_alloc _ _)) (below_alloc _ _))
             | (refine ⟨w2.heap.size + 1, _, ta, na, tc, nc, by with_reducible rfl, rfl, rfl, ?_, ?_, ?_⟩
                · exact (N2.g.alloc N2.g.size _).alloc (by have := N2.g.size; simp; omega) _
                · exact K.new_at1 _ _ _
                · exact own_any (own_any oB1 (below_alloc _ _)) (below_alloc _ _)))
        | (have hno : Kx W (some _) none w2 := N2
           clear hno
           obtain ⟨z1, z2, z3, z4⟩ := end1 (W := W) [.int .i64 1, .slice ta 1 tc, .int .i64 8, .int .i64 0, .int .i64 0, .int .i64 8, .int .i64 0, .int .i64 0, .int .i64 0, .slice na 2 nc, .int .i64 8, .int .i64 0, .int .i64 0] (N2.a _ rfl).2 rfl (N2.a _ rfl).1 N2.g
           have oB2 := oB1.kept z3 (.inr (own_kind_ne' oB1 (N2.a _ rfl).2 (by decide)))
           simp only [setAll, Nat.zero_add, Nat.reduceAdd] at z1 z2 z3 z4 oB2
           exact ⟨_, _, ta, na, tc, nc, rfl, rfl, rfl, z2.alloc z2.size _, at_alloc z1, own_any oB2 (below_alloc _ _)⟩)
        | (have hno : Kx W none (some _) w2 := N2
           clear hno
           obtain ⟨z1, z2, z3, z4⟩ := end1 (W := W) [.int .i64 50, .int .i64 50] (N2.b _ rfl).2 rfl (N2.b _ rfl).1 N2.g
           have oB2 := oB1.kept z3 (.inr (own_kind_ne' oB1 (N2.b _ rfl).2 (by decide)))
           simp only [setAll, Nat.zero_add, Nat.reduceAdd] at z1 z2 z3 z4 oB2
           exact ⟨_, _, ta, na, tc, nc, rfl, rfl, rfl, z2.alloc z2.size _, new_atN z4 _, own_any oB2 (below_alloc _ _)⟩)
        | (have hno : Kx W (some _) (some _) w2 := N2
           clear hno
           obtain ⟨z1, z2, z3, z4, z5⟩ := endI (w := W) [.int .i64 1, .slice ta 1 tc, .int .i64 8, .int .i64 0, .int .i64 0, .int .i64 8, .int .i64 0, .int .i64 0, .int .i64 0, .slice na 2 nc, .int .i64 8, .int .i64 0, .int .i64 0] [.int .i64 50, .int .i64 50] (N2.a _ rfl).2 (N2.b _ rfl).2 rfl rfl N2.ne (N2.a _ rfl).1 (N2.b _ rfl).1 N2.g
           have oB2 := (oB1.kept z4 (.inr (own_kind_ne' oB1 (N2.a _ rfl).2 (by decide)))).kept z5 (.inr (own_kind_ne' oB1 (N2.b _ rfl).2 (by decide)))
           simp only [setAll, Nat.zero_add, Nat.reduceAdd] at z1 z2 z3 z4 z5 oB2
           exact ⟨_, _, ta, na, tc, nc, rfl, rfl, rfl, z3, z1, oB2⟩))
  case rest =>
    obtain ⟨kk, jj, ta, na, tc, nc, rfl, rfl, rfl, bc, kr, oN⟩ := hcut
    have p3 := at_below n1 bc
    clear y0 y1 y2 hne8 hne9 hx8 hx9 CI n1
    have y0 := cellsAt p3 0
    have y1 := cellsAt p3 1
    have y2 := cellsAt p3 2
    simp only [List.getElem?_toArray, List.getElem?_cons_zero, List.getElem?_cons_succ] at y0 y1 y2
    go_upto_region 3 with fail
    go_cut [5, 6] (fun s5 s6 wx => ∃ g : Nat, s5 = .slice (some ⟨g, 0, none⟩) 62 62 ∧ s6 = .int .i64 0 ∧ BoolsAt g (List.replicate 60 true ++ [false, false]) wx ∧ Below wc.heap.size wc wx)
    case first =>
      go_region_held3 (fun w' => w'.cell? ⟨w.heap.size + 1, 0, none⟩ = some (.slice none 0 0) ∧ w'.cell? ⟨w.heap.size + 1, 1, none⟩ = some (.slice (some ⟨w.heap.size, 0, none⟩) 1 1) ∧ w'.cell? ⟨w.heap.size + 1, 2, none⟩ = some (.int .i64 9)) (go_keep) (first
        | (go_at_call 24; refine (CP.out _ (bc.trans (hb1.mono bc.size))).mono ?_; rintro e w2 ⟨V, rfl, _, hV, hb2⟩; obtain ⟨g, rfl, hg2, hB2⟩ := hV (by first | rfl | trivial); have z2 := at_below (at_below p3 hb1) hb2; have q20 := cellsAt z2 0; have q21 := cellsAt z2 1; have q22 := cellsAt z2 2; simp only [List.getElem?_toArray, List.getElem?_cons_zero, List.getElem?_cons_succ] at q20 q21 q22; clear z2)
        | (go_at_call 47; refine (CS.out _).mono ?_; rintro e w1 ⟨rfl, hb1'⟩; have hb1 := (Below.refl wc.heap.size wc).drew.trans hb1'; have z1 := at_below p3 hb1; have q10 := cellsAt z1 0; have q11 := cellsAt z1 1; have q12 := cellsAt z1 2; simp only [List.getElem?_toArray, List.getElem?_cons_zero, List.getElem?_cons_succ] at q10 q11 q12; clear z1))
      all_goals (
        go_wp2_with fail
        go_meet
        exact ⟨g, rfl, rfl, hB2, hb1.trans (hb2.mono hb1.size)⟩)
    case rest =>
      obtain ⟨g, rfl, rfl, hB, bd⟩ := hcut
      have kr2 := at_below kr bd
      have oN2 := own_any oN bd
      have b2 := (hbW.trans (bc.mono hbW.size))
      have b3 := b2.trans (bd.mono b2.size)
      have C0 := Lib.hid (CS.out wc)
      clear y0 y1 y2 CP CS p3 kr oN
      go_wp2_with (go_at_call 47; refine C0.out.mono ?_; rintro e w3 ⟨rfl, hb3⟩; refine Hid.out ?_)
      have b4 := b3.trans (hb3.mono b3.size)
      have kr3 := at_below kr2 hb3
      unfold BoolsAt at hB
      have hB3 := at_below hB hb3
      obtain ⟨_, _, hao, ha⟩ := rowOfOwn (own_any oN2 hb3)
      cases hao
      obtain ⟨gn, o, rfl, hca⟩ := ha (by decide)
      have c6 := hca 6 (.string ⟨#[97, 98]⟩) rfl
      have c11 := hca 11 (.int .i64 4) rfl
      have c13 := hca 13 (.string ⟨#[]⟩) rfl
      have c11' : w3.cell? ⟨gn, o + 7 + 4, none⟩ = some (.int .i64 4) := c11
      have c13' : w3.cell? ⟨gn, o + 7 + 6, none⟩ = some (.string ⟨#[]⟩) := c13
      have d58 : w3.cell? ⟨g, 58, none⟩ = some (.bool true) := (cellsAt hB3 58).trans rfl
      have d59 : w3.cell? ⟨g, 59, none⟩ = some (.bool true) := (cellsAt hB3 59).trans rfl
      have d60 : w3.cell? ⟨g, 60, none⟩ = some (.bool false) := (cellsAt hB3 60).trans rfl
      have d61 : w3.cell? ⟨g, 61, none⟩ = some (.bool false) := (cellsAt hB3 61).trans rfl
      have e9 := cellsAt kr3 9
      simp only [List.getElem?_toArray, List.getElem?_cons_zero, List.getElem?_cons_succ] at e9
      clear hca ha oN2 kr2 kr3 hB hB3 C0 hb3 bd bc
      refine Lib.hid ?_
      go_wp2
      go_ret
      exact ⟨rfl, b4⟩
end Go.Proofs.YteibjmlimcpaoaaDoor.W
