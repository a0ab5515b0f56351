/-
  What report.writer's methods table and name leave: the bytes of a table, of a name, behind those that stood.
-/
import Derived.Test.YteibjmlimcpaoaaDoorEWr
set_option linter.unusedVariables false
set_option linter.unusedSimpArgs false
namespace Go.Proofs.YteibjmlimcpaoaaDoor
open Go.RowKit Go.Sort

theorem wr_alloc {B b : Nat} {l : List UInt8} {w : World} (h : WrAt B b l w) (o : Obj) : WrAt B b l (w.alloc o) := by
  have hlt := wr_lt h
  obtain ⟨hB, v, hb, hown⟩ := h
  exact ⟨hB, v, (Lib.alloc_old w o b hlt).trans hb, hown.alloc _⟩
theorem allocAt (w : World) (o : Obj) : (w.alloc o).heap[w.heap.size]? = some o := by
  show (w.heap.push o)[w.heap.size]? = _
  simp
theorem keptAt {b k : Nat} {w w' : World} {cs : Array Value} {T : TypeId} {fz : Nat × Nat} (hk : Lib.OthersKept 5 (some b) w w') (h : w.heap[k]? = some (.cells cs T fz)) (hT : T ≠ 5) (hne : k ≠ b) : w'.heap[k]? = some (.cells cs T fz) :=
  hk k _ h (fun e => hne (Option.some.inj e)) (fun c fz' e => by cases e; exact hT rfl)
theorem cellsAt {k : Nat} {w : World} {cs : Array Value} {T : TypeId} {fz : Nat × Nat} (h : w.heap[k]? = some (.cells cs T fz)) (i : Nat) : w.cell? ⟨k, i, none⟩ = cs[i]? := by
  simp [World.cell?, h]

set_option maxRecDepth 100000 in
set_option maxHeartbeats 1000000 in
theorem wtable (B b : Nat) (tag : ByteArray) (st sz : Nat) (l : List UInt8) (w : World) (hBw : B ≤ w.heap.size) (ht : tag.size = 4) (hst : st < 256) (hsz : sz < 65536) (h : WrAt B b l w) (hl : l.length ≤ 1040000) :
    Calls Tryd.prog 83 #[.pointer (some ⟨b, 0, none⟩), .agg #[.string tag, .int .i64 st, .int .i64 sz]] w fun e w' => e = .returned (.tuple #[]) ∧ WrAt B b (l ++ tag.data.toList ++ oneL st ++ twoL sz) w' ∧ Below B w w' ∧ Lib.OthersKept 5 (some b) w w' := by
  have e4 : tag.data.toList.length = 4 := by simp [ht]
  have hlt := wr_lt h
  have A := Lib.hid (fun w (h : WrAt B b l w) => wbytes B b tag l w (by omega) h (by omega))
  have C := Lib.hid (fun w (h : WrAt B b (l ++ tag.data.toList) w) => wone B b st (l ++ tag.data.toList) w hst h (by rw [List.length_append]; omega))
  have D := Lib.hid (fun w (h : WrAt B b (l ++ tag.data.toList ++ oneL st) w) => wtwo B b sz (l ++ tag.data.toList ++ oneL st) w (by omega) h (by rw [List.length_append, List.length_append]; have : (oneL st).length = 1 := rfl; omega))
  generalize l ++ tag.data.toList = l1 at *
  generalize l1 ++ oneL st = l2 at *
  generalize l2 ++ twoL sz = l3 at *
  have h0 := wr_alloc h (.cells #[.string tag, .int .i64 st, .int .i64 sz] 77)
  have a0 := allocAt w (.cells #[.string tag, .int .i64 st, .int .i64 sz] 77)
  have b0 : Below B w (w.alloc (.cells #[.string tag, .int .i64 st, .int .i64 sz] 77)) := (Below.refl _ _).alloc hBw _
  have k0 : Lib.OthersKept 5 (some b) w (w.alloc (.cells #[.string tag, .int .i64 st, .int .i64 sz] 77)) := (Lib.OthersKept.refl _ _ _).alloc _
  go_enter Tryd.func83, Tryd.ntmps83
  go_wp2_with (go_at_call 116; refine (A.out _ h0).mono ?_; rintro e w1 ⟨rfl, h1, b1, k1⟩; refine Hid.out ?_)
  have a1 := keptAt k1 a0 (by decide) (by omega)
  have x1 := cellsAt a1 1
  have x2 := cellsAt a1 2
  simp only [List.getElem?_toArray, List.getElem?_cons_zero, List.getElem?_cons_succ] at x1 x2
  refine Lib.hid ?_
  go_wp2_with (go_at_call 82; refine (C.out _ h1).mono ?_; rintro e w2 ⟨rfl, h2, b2, k2⟩; refine Hid.out ?_)
  have a2 := keptAt k2 a1 (by decide) (by omega)
  clear x1 x2
  have x2 := cellsAt a2 2
  simp only [List.getElem?_toArray, List.getElem?_cons_zero, List.getElem?_cons_succ] at x2
  refine Lib.hid ?_
  go_wp2_with (go_at_call 84; refine (D.out _ h2).mono ?_; rintro e w3 ⟨rfl, h3, b3, k3⟩)
  go_end0
  exact ⟨rfl, h3, b0.trans (b1.trans (b2.trans b3)), k0.trans (k1.trans (k2.trans k3))⟩

set_option maxRecDepth 100000 in
set_option maxHeartbeats 2000000 in
theorem wname (B b : Nat) (pl en la id st ms : Nat) (tx : ByteArray) (l : List UInt8) (w : World) (hBw : B ≤ w.heap.size) (h1 : pl < 65536) (h2 : en < 65536) (h3 : la < 65536) (h4 : id < 65536) (h5 : st < 256) (h6 : ms < 256) (h7 : tx.size ≤ 60) (h : WrAt B b l w) (hl : l.length ≤ 1040000) :
    Calls Tryd.prog 85 #[.pointer (some ⟨b, 0, none⟩), .agg #[.int .i64 pl, .int .i64 en, .int .i64 la, .int .i64 id, .int .i64 st, .int .i64 ms, .string tx]] w fun e w' => e = .returned (.tuple #[]) ∧ WrAt B b (l ++ twoL pl ++ twoL en ++ twoL la ++ twoL id ++ oneL st ++ oneL ms ++ oneL tx.size ++ tx.data.toList) w' ∧ Below B w w' ∧ Lib.OthersKept 5 (some b) w w' := by
  have two : ∀ n, (twoL n).length = 2 := fun _ => rfl
  have one : ∀ n, (oneL n).length = 1 := fun _ => rfl
  have hlt := wr_lt h
  have A1 := Lib.hid (fun w (h : WrAt B b l w) => wtwo B b pl l w (by omega) h (by omega))
  have A2 := Lib.hid (fun w (h : WrAt B b (l ++ twoL pl) w) => wtwo B b en _ w (by omega) h (by simp only [List.length_append, two]; omega))
  have A3 := Lib.hid (fun w (h : WrAt B b (l ++ twoL pl ++ twoL en) w) => wtwo B b la _ w (by omega) h (by simp only [List.length_append, two]; omega))
  have A4 := Lib.hid (fun w (h : WrAt B b (l ++ twoL pl ++ twoL en ++ twoL la) w) => wtwo B b id _ w (by omega) h (by simp only [List.length_append, two]; omega))
  have A5 := Lib.hid (fun w (h : WrAt B b (l ++ twoL pl ++ twoL en ++ twoL la ++ twoL id) w) => wone B b st _ w h5 h (by simp only [List.length_append, two]; omega))
  have A6 := Lib.hid (fun w (h : WrAt B b (l ++ twoL pl ++ twoL en ++ twoL la ++ twoL id ++ oneL st) w) => wone B b ms _ w h6 h (by simp only [List.length_append, two, one]; omega))
  have A7 := Lib.hid (fun w (h : WrAt B b (l ++ twoL pl ++ twoL en ++ twoL la ++ twoL id ++ oneL st ++ oneL ms) w) => wone B b tx.size _ w (by omega) h (by simp only [List.length_append, two, one]; omega))
  have A8 := Lib.hid (fun w (h : WrAt B b (l ++ twoL pl ++ twoL en ++ twoL la ++ twoL id ++ oneL st ++ oneL ms ++ oneL tx.size) w) => wbytes B b tx _ w (by omega) h (by simp only [List.length_append, two, one]; omega))
  generalize l ++ twoL pl = l1 at *
  generalize l1 ++ twoL en = l2 at *
  generalize l2 ++ twoL la = l3 at *
  generalize l3 ++ twoL id = l4 at *
  generalize l4 ++ oneL st = l5 at *
  generalize l5 ++ oneL ms = l6 at *
  generalize l6 ++ oneL tx.size = l7 at *
  generalize l7 ++ tx.data.toList = l8 at *
  clear one two
  have g0 := wr_alloc h (.cells #[.int .i64 pl, .int .i64 en, .int .i64 la, .int .i64 id, .int .i64 st, .int .i64 ms, .string tx] 79)
  have a0 := allocAt w (.cells #[.int .i64 pl, .int .i64 en, .int .i64 la, .int .i64 id, .int .i64 st, .int .i64 ms, .string tx] 79)
  have b0 : Below B w (w.alloc (.cells #[.int .i64 pl, .int .i64 en, .int .i64 la, .int .i64 id, .int .i64 st, .int .i64 ms, .string tx] 79)) := (Below.refl _ _).alloc hBw _
  have k0 : Lib.OthersKept 5 (some b) w (w.alloc (.cells #[.int .i64 pl, .int .i64 en, .int .i64 la, .int .i64 id, .int .i64 st, .int .i64 ms, .string tx] 79)) := (Lib.OthersKept.refl _ _ _).alloc _
  go_enter Tryd.func85, Tryd.ntmps85
  go_wp2_with (go_at_call 84; refine (A1.out _ g0).mono ?_; rintro e w1 ⟨rfl, g1, b1, k1⟩; refine Hid.out ?_)
  have a1 := keptAt k1 a0 (by decide) (by omega)
  have x := cellsAt a1 1
  simp only [List.getElem?_toArray, List.getElem?_cons_zero, List.getElem?_cons_succ] at x
  refine Lib.hid ?_
  go_wp2_with (go_at_call 84; refine (A2.out _ g1).mono ?_; rintro e w2 ⟨rfl, g2, b2, k2⟩; refine Hid.out ?_)
  clear x
  have a2 := keptAt k2 a1 (by decide) (by omega)
  have x := cellsAt a2 2
  simp only [List.getElem?_toArray, List.getElem?_cons_zero, List.getElem?_cons_succ] at x
  refine Lib.hid ?_
  go_wp2_with (go_at_call 84; refine (A3.out _ g2).mono ?_; rintro e w3 ⟨rfl, g3, b3, k3⟩; refine Hid.out ?_)
  clear x
  have a3 := keptAt k3 a2 (by decide) (by omega)
  have x := cellsAt a3 3
  simp only [List.getElem?_toArray, List.getElem?_cons_zero, List.getElem?_cons_succ] at x
  refine Lib.hid ?_
  go_wp2_with (go_at_call 84; refine (A4.out _ g3).mono ?_; rintro e w4 ⟨rfl, g4, b4, k4⟩; refine Hid.out ?_)
  clear x
  have a4 := keptAt k4 a3 (by decide) (by omega)
  have x := cellsAt a4 4
  simp only [List.getElem?_toArray, List.getElem?_cons_zero, List.getElem?_cons_succ] at x
  refine Lib.hid ?_
  go_wp2_with (go_at_call 82; refine (A5.out _ g4).mono ?_; rintro e w5 ⟨rfl, g5, b5, k5⟩; refine Hid.out ?_)
  clear x
  have a5 := keptAt k5 a4 (by decide) (by omega)
  have x := cellsAt a5 5
  simp only [List.getElem?_toArray, List.getElem?_cons_zero, List.getElem?_cons_succ] at x
  refine Lib.hid ?_
  go_wp2_with (go_at_call 82; refine (A6.out _ g5).mono ?_; rintro e w6 ⟨rfl, g6, b6, k6⟩; refine Hid.out ?_)
  clear x
  have a6 := keptAt k6 a5 (by decide) (by omega)
  have x := cellsAt a6 6
  simp only [List.getElem?_toArray, List.getElem?_cons_zero, List.getElem?_cons_succ] at x
  refine Lib.hid ?_
  go_wp2_with (go_at_call 82; refine (A7.out _ g6).mono ?_; rintro e w7 ⟨rfl, g7, b7, k7⟩; refine Hid.out ?_)
  clear x
  have a7 := keptAt k7 a6 (by decide) (by omega)
  have x := cellsAt a7 6
  simp only [List.getElem?_toArray, List.getElem?_cons_zero, List.getElem?_cons_succ] at x
  refine Lib.hid ?_
  go_wp2_with (go_at_call 116; refine (A8.out _ g7).mono ?_; rintro e w8 ⟨rfl, g8, b8, k8⟩)
  go_end0
  exact ⟨rfl, g8, b0.trans (b1.trans (b2.trans (b3.trans (b4.trans (b5.trans (b6.trans (b7.trans b8))))))), k0.trans (k1.trans (k2.trans (k3.trans (k4.trans (k5.trans (k6.trans (k7.trans k8)))))))⟩
end Go.Proofs.YteibjmlimcpaoaaDoor
