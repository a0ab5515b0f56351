/-
  What report.writer's methods one, two, four, bytes leave: the bytes that were written behind those that stood; nothing else that lay in memory turns.
  What report.writer's methods table and name leave: the bytes of a table, of a name, behind those that stood.
  What report.writer's method report leaves: the bytes of a right report.
  What the law's own lentReport makes: a report of its own with the same lists, eight marks more behind each; nothing that lay in memory turns.
-/
import Derived.Test.YteibjmlimcpaoaaDoorEa
import Derived.Lib.AppendStr
import Derived.Lib.OwnKind
import Derived.OneCell
import Derived.Lib.OthersKept
import Derived.Laws.MakeOwn
import Derived.Laws.CopyRow
import Derived.Laws.CopyOwn
set_option linter.unusedVariables false
set_option linter.unusedSimpArgs false
namespace Go.Proofs.YteibjmlimcpaoaaDoor
open Go.RowKit Go.Sort

/-- a writer that the call itself made, in the block b, with its bytes -/
def WrAt (B b : Nat) (l : List UInt8) (w : World) : Prop :=
  B ≤ b ∧ ∃ v, w.heap[b]? = some (.cells #[v] 96 (0, 0)) ∧ w.ownsRow B 5 1 v l.length (Lib.byteCells l)

theorem wr_ne {B b : Nat} {v : Value} {n : Nat} {xs : List Value} {u : Value} {w : World} (hb : w.heap[b]? = some (.cells #[u] 96 (0, 0))) (hown : w.ownsRow B 5 1 v n xs) : v.ownBlock ≠ some b := by
  intro e
  obtain ⟨c, fz, h⟩ := Lib.ownsRow_kind hown b e
  rw [hb] at h
  simp at h
theorem wr_put {B b : Nat} {v v' : Value} {l : List UInt8} {w : World} (hB : B ≤ b) (hb : w.heap[b]? = some (.cells #[v] 96 (0, 0))) (hown : w.ownsRow B 5 1 v' l.length (Lib.byteCells l)) : WrAt B b l (w.setCell ⟨b, 0, none⟩ v') := by
  have hne := wr_ne hb hown
  refine ⟨hB, v', ?_, ?_⟩
  · simp [World.setCell, Array.getElem?_modify, hb]
  · exact ownsRow_setCell_other hown hne _
theorem wr_lt {B b : Nat} {l : List UInt8} {w : World} (h : WrAt B b l w) : b < w.heap.size := by
  obtain ⟨_, v, hb, _⟩ := h
  rcases Nat.lt_or_ge b w.heap.size with h' | h'
  · exact h'
  · simp [Array.getElem?_eq_none h'] at hb
theorem byteCells_length (l : List UInt8) : (Lib.byteCells l).length = l.length := by simp [Lib.byteCells]
theorem byteCells_append (a b : List UInt8) : Lib.byteCells (a ++ b) = Lib.byteCells a ++ Lib.byteCells b := by simp [Lib.byteCells]
theorem newCells (w : World) (cs : List Value) (T : TypeId) : ∀ j u, cs[j]? = some u → (w.alloc (.cells cs.toArray T)).cell? ((⟨w.heap.size, 0, none⟩ : Addr).add j) = some u := by
  intro j u hj
  rw [addr_add, Nat.zero_add, World.cell?_alloc_new]
  simpa using hj
theorem infoByte : (Tryd.prog.info? 5).map (fun i => (i.zero, i.size, i.bytes)) = some (some (.int .u8 0), 1, 1) := by kernel_rfl

/-- behind an append to the writer's bytes and the store of the slice -/
theorem wr_done {B b : Nat} {l m : List UInt8} {v v' : Value} {w w1 w2 : World} (hB : B ≤ b) (hlt : b < w.heap.size) (hBw : B ≤ w.heap.size) (hb : w.heap[b]? = some (.cells #[v] 96 (0, 0))) (hown : w.ownsRow B 5 1 v l.length (Lib.byteCells l))
    (hb1 : Below w.heap.size w w1) (hk1 : Lib.OthersKept 5 (some b) w w1) (hown1 : w1.ownsRow B 5 1 v l.length (Lib.byteCells l)) (hown' : w2.ownsRow B 5 1 v' (l ++ m).length (Lib.byteCells (l ++ m))) (hgrow : w1.grownBy w2 v.ownBlock) :
    w2.heap[b]? = some (.cells #[v] 96 (0, 0)) ∧ WrAt B b (l ++ m) (w2.setCell ⟨b, 0, none⟩ v') ∧ Below B w (w2.setCell ⟨b, 0, none⟩ v') ∧ Lib.OthersKept 5 (some b) w (w2.setCell ⟨b, 0, none⟩ v') := by
  have hs1 := hb1.size
  have hbk : w2.heap[b]? = some (.cells #[v] 96 (0, 0)) := by
    rw [hgrow.block b (by omega) (fun e => wr_ne hb hown e.symm), hb1.block b hlt]
    exact hb
  refine ⟨hbk, wr_put hB hbk hown', ?_, (hk1.grown hgrow (Lib.ownsRow_kind hown1)).setCell ⟨b, 0, none⟩ rfl _⟩
  exact (((hb1.mono hBw).grown hgrow (by omega) (fun k hk => (hown.lt k hk).1))).setCell (p := ⟨b, 0, none⟩) hB _

set_option maxRecDepth 100000 in
set_option maxHeartbeats 1000000 in
theorem wone (B b n : Nat) (l : List UInt8) (w : World) (hn : n < 256) (h : WrAt B b l w) (hl : l.length ≤ 1048576) :
    Calls Tryd.prog 82 #[.pointer (some ⟨b, 0, none⟩), .int .i64 n] w fun e w' => e = .returned (.tuple #[]) ∧ WrAt B b (l ++ oneL n) w' ∧ Below B w w' ∧ Lib.OthersKept 5 (some b) w w' := by
  have hlt := wr_lt h
  obtain ⟨hB, v, hb, hown⟩ := h
  obtain ⟨i0, hi, hz0, hz1, hz2⟩ := info_parts infoByte
  have c0 : w.cell? ⟨b, 0, none⟩ = some v := by simp [World.cell?, hb]
  go_enter Tryd.func82, Tryd.ntmps82
  go_wp2_with (at_builtin; refine wpList_append_own _ rfl _ _ 62 rfl B 5 i0 (.int .u8 0) 1 1 Tryd.underlying62 hi hz0 hz1 hz2 rfl (by decide) _ _ _ rfl (hown.alloc _) ⟨w.heap.size, 0, none⟩ 1 1 [.int .u8 n] rfl rfl (newCells _ _ _) (fun x hx => by simp at hx; rcases hx with rfl; rfl) (by unfold maxLen; omega) (by omega) (by simp; omega) ?_; intro v' w2 hown' hgrow hnil; refine Hid.out ?_)
  have hown2 : w2.ownsRow B 5 1 v' (l ++ oneL n).length (Lib.byteCells (l ++ oneL n)) := by
    rw [byteCells_append, List.length_append]
    have e : Lib.byteCells (oneL n) = [.int .u8 n] := by simp [Lib.byteCells, oneL]; omega
    rw [e]
    exact hown'
  obtain ⟨hbk, hat, hbel, hkept⟩ := wr_done hB hlt (by omega) hb hown ((Below.refl _ _).alloc (Nat.le_refl _) _) ((Lib.OthersKept.refl _ _ _).alloc _) (hown.alloc _) hown2 hgrow
  have d0 : w2.cell? ⟨b, 0, none⟩ = some v := by simp [World.cell?, hbk]
  have f0 : w2.frozen? ⟨b, 0, none⟩ = false := by simp [World.frozen?, hbk]
  obtain ⟨ao, n', cap, rfl⟩ : ∃ ao n' cap, v' = .slice ao n' cap := by
    rcases hown'.2 with ⟨hv, _⟩ | ⟨g, cap, cur, hv, _⟩
    · exact ⟨_, _, _, hv⟩
    · exact ⟨_, _, _, hv⟩
  refine Lib.hid ?_
  go_wp2
  go_end0
  exact ⟨rfl, hat, hbel, hkept⟩

set_option maxRecDepth 100000 in
set_option maxHeartbeats 1000000 in
theorem wtwo (B b n : Nat) (l : List UInt8) (w : World) (hn : n < 4294967296) (h : WrAt B b l w) (hl : l.length ≤ 1048576) :
    Calls Tryd.prog 84 #[.pointer (some ⟨b, 0, none⟩), .int .i64 n] w fun e w' => e = .returned (.tuple #[]) ∧ WrAt B b (l ++ twoL n) w' ∧ Below B w w' ∧ Lib.OthersKept 5 (some b) w w' := by
  have hlt := wr_lt h
  obtain ⟨hB, v, hb, hown⟩ := h
  obtain ⟨i0, hi, hz0, hz1, hz2⟩ := info_parts infoByte
  have c0 : w.cell? ⟨b, 0, none⟩ = some v := by simp [World.cell?, hb]
  go_enter Tryd.func84, Tryd.ntmps84
  go_wp2_with (at_builtin; refine wpList_append_own _ rfl _ _ 62 rfl B 5 i0 (.int .u8 0) 1 1 Tryd.underlying62 hi hz0 hz1 hz2 rfl (by decide) _ _ _ rfl (hown.alloc _) ⟨w.heap.size, 0, none⟩ 2 2 [.int .u8 ((n : Int) / 256 % 256), .int .u8 ((n : Int) % 256)] rfl rfl (newCells _ _ _) (fun x hx => by simp at hx; rcases hx with rfl | rfl <;> rfl) (by unfold maxLen; omega) (by omega) (by simp; omega) ?_; intro v' w2 hown' hgrow hnil; refine Hid.out ?_)
  have hown2 : w2.ownsRow B 5 1 v' (l ++ twoL n).length (Lib.byteCells (l ++ twoL n)) := by
    rw [byteCells_append, List.length_append]
    have e : Lib.byteCells (twoL n) = [.int .u8 ((n : Int) / 256 % 256), .int .u8 ((n : Int) % 256)] := by simp [Lib.byteCells, twoL]
    rw [e]
    exact hown'
  obtain ⟨hbk, hat, hbel, hkept⟩ := wr_done hB hlt (by omega) hb hown ((Below.refl _ _).alloc (Nat.le_refl _) _) ((Lib.OthersKept.refl _ _ _).alloc _) (hown.alloc _) hown2 hgrow
  have d0 : w2.cell? ⟨b, 0, none⟩ = some v := by simp [World.cell?, hbk]
  have f0 : w2.frozen? ⟨b, 0, none⟩ = false := by simp [World.frozen?, hbk]
  obtain ⟨ao, n', cap, rfl⟩ : ∃ ao n' cap, v' = .slice ao n' cap := by
    rcases hown'.2 with ⟨hv, _⟩ | ⟨g, cap, cur, hv, _⟩
    · exact ⟨_, _, _, hv⟩
    · exact ⟨_, _, _, hv⟩
  refine Lib.hid ?_
  go_wp2
  go_end0
  exact ⟨rfl, hat, hbel, hkept⟩

set_option maxRecDepth 100000 in
set_option maxHeartbeats 1000000 in
theorem wbytes (B b : Nat) (s : ByteArray) (l : List UInt8) (w : World) (hs : s.size ≤ 1048576) (h : WrAt B b l w) (hl : l.length ≤ 1048576) :
    Calls Tryd.prog 116 #[.pointer (some ⟨b, 0, none⟩), .string s] w fun e w' => e = .returned (.tuple #[]) ∧ WrAt B b (l ++ s.data.toList) w' ∧ Below B w w' ∧ Lib.OthersKept 5 (some b) w w' := by
  have hlt := wr_lt h
  obtain ⟨hB, v, hb, hown⟩ := h
  obtain ⟨i0, hi, hz0, hz1, hz2⟩ := info_parts infoByte
  have c0 : w.cell? ⟨b, 0, none⟩ = some v := by simp [World.cell?, hb]
  go_enter Tryd.func116, Tryd.ntmps116
  go_wp2_with (at_builtin; refine Lib.wpList_append_own_string _ rfl _ _ 62 9 rfl B 5 i0 Tryd.underlying62 Tryd.underlying9 hi hz0 hz1 hz2 _ _ _ rfl hown s rfl (by unfold maxLen; omega) (by omega) (by omega) ?_; intro v' w2 hown' hgrow hnil; refine Hid.out ?_)
  have hown2 : w2.ownsRow B 5 1 v' (l ++ s.data.toList).length (Lib.byteCells (l ++ s.data.toList)) := by
    rw [byteCells_append, List.length_append, Array.length_toList]
    exact hown'
  obtain ⟨hbk, hat, hbel, hkept⟩ := wr_done hB hlt (by omega) hb hown (Below.refl _ _) (Lib.OthersKept.refl _ _ _) hown hown2 hgrow
  have d0 : w2.cell? ⟨b, 0, none⟩ = some v := by simp [World.cell?, hbk]
  have f0 : w2.frozen? ⟨b, 0, none⟩ = false := by simp [World.frozen?, hbk]
  obtain ⟨ao, n', cap, rfl⟩ : ∃ ao n' cap, v' = .slice ao n' cap := by
    rcases hown'.2 with ⟨hv, _⟩ | ⟨g, cap, cur, hv, _⟩
    · exact ⟨_, _, _, hv⟩
    · exact ⟨_, _, _, hv⟩
  refine Lib.hid ?_
  go_wp2
  go_end0
  exact ⟨rfl, hat, hbel, hkept⟩

set_option maxRecDepth 100000 in
set_option maxHeartbeats 1000000 in
theorem wfour (B b n : Nat) (l : List UInt8) (w : World) (hn : n < 4294967296) (h : WrAt B b l w) (hl : l.length ≤ 1040000) :
    Calls Tryd.prog 86 #[.pointer (some ⟨b, 0, none⟩), .int .i64 n] w fun e w' => e = .returned (.tuple #[]) ∧ WrAt B b (l ++ fourL n) w' ∧ Below B w w' ∧ Lib.OthersKept 5 (some b) w w' := by
  have e0 : fourL n = twoL (n / 65536) ++ twoL n := rfl
  rw [e0, ← List.append_assoc]
  have A := Lib.hid (wtwo B b (n / 65536) l w (by omega) h (by omega))
  have hl2 : (l ++ twoL (n / 65536)).length = l.length + 2 := by simp [twoL]
  have C := Lib.hid (fun w1 (h1 : WrAt B b (l ++ twoL (n / 65536)) w1) => wtwo B b n (l ++ twoL (n / 65536)) w1 hn h1 (by omega))
  rw [show ((n / 65536 : Nat) : Int) = (n : Int) / 65536 by omega] at A
  generalize l ++ twoL (n / 65536) = l1 at *
  generalize l1 ++ twoL n = l2 at *
  go_enter Tryd.func86, Tryd.ntmps86
  go_wp2_with (go_at_call 84; refine A.out.mono ?_; rintro e w1 ⟨rfl, h1, hb1, hk1⟩; refine Hid.out ?_)
  refine Lib.hid ?_
  go_wp2_with (go_at_call 84; refine (C.out _ h1).mono ?_; rintro e w2 ⟨rfl, h2, hb2, hk2⟩)
  go_end0
  exact ⟨rfl, h2, hb1.trans hb2, hk1.trans hk2⟩
end Go.Proofs.YteibjmlimcpaoaaDoor

set_option linter.unusedVariables false
set_option linter.unusedSimpArgs false
namespace Go.Proofs.YteibjmlimcpaoaaDoor
open Go.RowKit Go.Sort

theorem wr_alloc {B b : Nat} {l : List UInt8} {w : World} (h : WrAt B b l w) (o : Obj) : WrAt B b l (w.alloc o) := by
  have hlt := wr_lt h
  obtain ⟨hB, v, hb, hown⟩ := h
  exact ⟨hB, v, (Lib.alloc_old w o b hlt).trans hb, hown.alloc _⟩
theorem allocAt (w : World) (o : Obj) : (w.alloc o).heap[w.heap.size]? = some o := by
  show (w.heap.push o)[w.heap.size]? = _
  simp
theorem keptAt {b k : Nat} {w w' : World} {cs : Array Value} {T : TypeId} {fz : Nat × Nat} (hk : Lib.OthersKept 5 (some b) w w') (h : w.heap[k]? = some (.cells cs T fz)) (hT : T ≠ 5) (hne : k ≠ b) : w'.heap[k]? = some (.cells cs T fz) :=
  hk k _ h (fun e => hne (Option.some.inj e)) (fun c fz' e => by cases e; exact hT rfl)
theorem cellsAt {k : Nat} {w : World} {cs : Array Value} {T : TypeId} {fz : Nat × Nat} (h : w.heap[k]? = some (.cells cs T fz)) (i : Nat) : w.cell? ⟨k, i, none⟩ = cs[i]? := by
  simp [World.cell?, h]

set_option maxRecDepth 100000 in
set_option maxHeartbeats 1000000 in
theorem wtable (B b : Nat) (tag : ByteArray) (st sz : Nat) (l : List UInt8) (w : World) (hBw : B ≤ w.heap.size) (ht : tag.size = 4) (hst : st < 256) (hsz : sz < 65536) (h : WrAt B b l w) (hl : l.length ≤ 1040000) :
    Calls Tryd.prog 83 #[.pointer (some ⟨b, 0, none⟩), .agg #[.string tag, .int .i64 st, .int .i64 sz]] w fun e w' => e = .returned (.tuple #[]) ∧ WrAt B b (l ++ tag.data.toList ++ oneL st ++ twoL sz) w' ∧ Below B w w' ∧ Lib.OthersKept 5 (some b) w w' := by
  have e4 : tag.data.toList.length = 4 := by simp [ht]
  have hlt := wr_lt h
  have A := Lib.hid (fun w (h : WrAt B b l w) => wbytes B b tag l w (by omega) h (by omega))
  have C := Lib.hid (fun w (h : WrAt B b (l ++ tag.data.toList) w) => wone B b st (l ++ tag.data.toList) w hst h (by rw [List.length_append]; omega))
  have D := Lib.hid (fun w (h : WrAt B b (l ++ tag.data.toList ++ oneL st) w) => wtwo B b sz (l ++ tag.data.toList ++ oneL st) w (by omega) h (by rw [List.length_append, List.length_append]; have : (oneL st).length = 1 := rfl; omega))
  generalize l ++ tag.data.toList = l1 at *
  generalize l1 ++ oneL st = l2 at *
  generalize l2 ++ twoL sz = l3 at *
  have h0 := wr_alloc h (.cells #[.string tag, .int .i64 st, .int .i64 sz] 77)
  have a0 := allocAt w (.cells #[.string tag, .int .i64 st, .int .i64 sz] 77)
  have b0 : Below B w (w.alloc (.cells #[.string tag, .int .i64 st, .int .i64 sz] 77)) := (Below.refl _ _).alloc hBw _
  have k0 : Lib.OthersKept 5 (some b) w (w.alloc (.cells #[.string tag, .int .i64 st, .int .i64 sz] 77)) := (Lib.OthersKept.refl _ _ _).alloc _
  go_enter Tryd.func83, Tryd.ntmps83
  go_wp2_with (go_at_call 116; refine (A.out _ h0).mono ?_; rintro e w1 ⟨rfl, h1, b1, k1⟩; refine Hid.out ?_)
  have a1 := keptAt k1 a0 (by decide) (by omega)
  have x1 := cellsAt a1 1
  have x2 := cellsAt a1 2
  simp only [List.getElem?_toArray, List.getElem?_cons_zero, List.getElem?_cons_succ] at x1 x2
  refine Lib.hid ?_
  go_wp2_with (go_at_call 82; refine (C.out _ h1).mono ?_; rintro e w2 ⟨rfl, h2, b2, k2⟩; refine Hid.out ?_)
  have a2 := keptAt k2 a1 (by decide) (by omega)
  clear x1 x2
  have x2 := cellsAt a2 2
  simp only [List.getElem?_toArray, List.getElem?_cons_zero, List.getElem?_cons_succ] at x2
  refine Lib.hid ?_
  go_wp2_with (go_at_call 84; refine (D.out _ h2).mono ?_; rintro e w3 ⟨rfl, h3, b3, k3⟩)
  go_end0
  exact ⟨rfl, h3, b0.trans (b1.trans (b2.trans b3)), k0.trans (k1.trans (k2.trans k3))⟩

set_option maxRecDepth 100000 in
set_option maxHeartbeats 2000000 in
theorem wname (B b : Nat) (pl en la id st ms : Nat) (tx : ByteArray) (l : List UInt8) (w : World) (hBw : B ≤ w.heap.size) (h1 : pl < 65536) (h2 : en < 65536) (h3 : la < 65536) (h4 : id < 65536) (h5 : st < 256) (h6 : ms < 256) (h7 : tx.size ≤ 60) (h : WrAt B b l w) (hl : l.length ≤ 1040000) :
    Calls Tryd.prog 85 #[.pointer (some ⟨b, 0, none⟩), .agg #[.int .i64 pl, .int .i64 en, .int .i64 la, .int .i64 id, .int .i64 st, .int .i64 ms, .string tx]] w fun e w' => e = .returned (.tuple #[]) ∧ WrAt B b (l ++ twoL pl ++ twoL en ++ twoL la ++ twoL id ++ oneL st ++ oneL ms ++ oneL tx.size ++ tx.data.toList) w' ∧ Below B w w' ∧ Lib.OthersKept 5 (some b) w w' := by
  have two : ∀ n, (twoL n).length = 2 := fun _ => rfl
  have one : ∀ n, (oneL n).length = 1 := fun _ => rfl
  have hlt := wr_lt h
  have A1 := Lib.hid (fun w (h : WrAt B b l w) => wtwo B b pl l w (by omega) h (by omega))
  have A2 := Lib.hid (fun w (h : WrAt B b (l ++ twoL pl) w) => wtwo B b en _ w (by omega) h (by simp only [List.length_append, two]; omega))
  have A3 := Lib.hid (fun w (h : WrAt B b (l ++ twoL pl ++ twoL en) w) => wtwo B b la _ w (by omega) h (by simp only [List.length_append, two]; omega))
  have A4 := Lib.hid (fun w (h : WrAt B b (l ++ twoL pl ++ twoL en ++ twoL la) w) => wtwo B b id _ w (by omega) h (by simp only [List.length_append, two]; omega))
  have A5 := Lib.hid (fun w (h : WrAt B b (l ++ twoL pl ++ twoL en ++ twoL la ++ twoL id) w) => wone B b st _ w h5 h (by simp only [List.length_append, two]; omega))
  have A6 := Lib.hid (fun w (h : WrAt B b (l ++ twoL pl ++ twoL en ++ twoL la ++ twoL id ++ oneL st) w) => wone B b ms _ w h6 h (by simp only [List.length_append, two, one]; omega))
  have A7 := Lib.hid (fun w (h : WrAt B b (l ++ twoL pl ++ twoL en ++ twoL la ++ twoL id ++ oneL st ++ oneL ms) w) => wone B b tx.size _ w (by omega) h (by simp only [List.length_append, two, one]; omega))
  have A8 := Lib.hid (fun w (h : WrAt B b (l ++ twoL pl ++ twoL en ++ twoL la ++ twoL id ++ oneL st ++ oneL ms ++ oneL tx.size) w) => wbytes B b tx _ w (by omega) h (by simp only [List.length_append, two, one]; omega))
  generalize l ++ twoL pl = l1 at *
  generalize l1 ++ twoL en = l2 at *
  generalize l2 ++ twoL la = l3 at *
  generalize l3 ++ twoL id = l4 at *
  generalize l4 ++ oneL st = l5 at *
  generalize l5 ++ oneL ms = l6 at *
  generalize l6 ++ oneL tx.size = l7 at *
  generalize l7 ++ tx.data.toList = l8 at *
  clear one two
  have g0 := wr_alloc h (.cells #[.int .i64 pl, .int .i64 en, .int .i64 la, .int .i64 id, .int .i64 st, .int .i64 ms, .string tx] 79)
  have a0 := allocAt w (.cells #[.int .i64 pl, .int .i64 en, .int .i64 la, .int .i64 id, .int .i64 st, .int .i64 ms, .string tx] 79)
  have b0 : Below B w (w.alloc (.cells #[.int .i64 pl, .int .i64 en, .int .i64 la, .int .i64 id, .int .i64 st, .int .i64 ms, .string tx] 79)) := (Below.refl _ _).alloc hBw _
  have k0 : Lib.OthersKept 5 (some b) w (w.alloc (.cells #[.int .i64 pl, .int .i64 en, .int .i64 la, .int .i64 id, .int .i64 st, .int .i64 ms, .string tx] 79)) := (Lib.OthersKept.refl _ _ _).alloc _
  go_enter Tryd.func85, Tryd.ntmps85
  go_wp2_with (go_at_call 84; refine (A1.out _ g0).mono ?_; rintro e w1 ⟨rfl, g1, b1, k1⟩; refine Hid.out ?_)
  have a1 := keptAt k1 a0 (by decide) (by omega)
  have x := cellsAt a1 1
  simp only [List.getElem?_toArray, List.getElem?_cons_zero, List.getElem?_cons_succ] at x
  refine Lib.hid ?_
  go_wp2_with (go_at_call 84; refine (A2.out _ g1).mono ?_; rintro e w2 ⟨rfl, g2, b2, k2⟩; refine Hid.out ?_)
  clear x
  have a2 := keptAt k2 a1 (by decide) (by omega)
  have x := cellsAt a2 2
  simp only [List.getElem?_toArray, List.getElem?_cons_zero, List.getElem?_cons_succ] at x
  refine Lib.hid ?_
  go_wp2_with (go_at_call 84; refine (A3.out _ g2).mono ?_; rintro e w3 ⟨rfl, g3, b3, k3⟩; refine Hid.out ?_)
  clear x
  have a3 := keptAt k3 a2 (by decide) (by omega)
  have x := cellsAt a3 3
  simp only [List.getElem?_toArray, List.getElem?_cons_zero, List.getElem?_cons_succ] at x
  refine Lib.hid ?_
  go_wp2_with (go_at_call 84; refine (A4.out _ g3).mono ?_; rintro e w4 ⟨rfl, g4, b4, k4⟩; refine Hid.out ?_)
  clear x
  have a4 := keptAt k4 a3 (by decide) (by omega)
  have x := cellsAt a4 4
  simp only [List.getElem?_toArray, List.getElem?_cons_zero, List.getElem?_cons_succ] at x
  refine Lib.hid ?_
  go_wp2_with (go_at_call 82; refine (A5.out _ g4).mono ?_; rintro e w5 ⟨rfl, g5, b5, k5⟩; refine Hid.out ?_)
  clear x
  have a5 := keptAt k5 a4 (by decide) (by omega)
  have x := cellsAt a5 5
  simp only [List.getElem?_toArray, List.getElem?_cons_zero, List.getElem?_cons_succ] at x
  refine Lib.hid ?_
  go_wp2_with (go_at_call 82; refine (A6.out _ g5).mono ?_; rintro e w6 ⟨rfl, g6, b6, k6⟩; refine Hid.out ?_)
  clear x
  have a6 := keptAt k6 a5 (by decide) (by omega)
  have x := cellsAt a6 6
  simp only [List.getElem?_toArray, List.getElem?_cons_zero, List.getElem?_cons_succ] at x
  refine Lib.hid ?_
  go_wp2_with (go_at_call 82; refine (A7.out _ g6).mono ?_; rintro e w7 ⟨rfl, g7, b7, k7⟩; refine Hid.out ?_)
  clear x
  have a7 := keptAt k7 a6 (by decide) (by omega)
  have x := cellsAt a7 6
  simp only [List.getElem?_toArray, List.getElem?_cons_zero, List.getElem?_cons_succ] at x
  refine Lib.hid ?_
  go_wp2_with (go_at_call 116; refine (A8.out _ g7).mono ?_; rintro e w8 ⟨rfl, g8, b8, k8⟩)
  go_end0
  exact ⟨rfl, g8, b0.trans (b1.trans (b2.trans (b3.trans (b4.trans (b5.trans (b6.trans (b7.trans b8))))))), k0.trans (k1.trans (k2.trans (k3.trans (k4.trans (k5.trans (k6.trans (k7.trans k8)))))))⟩
end Go.Proofs.YteibjmlimcpaoaaDoor

set_option linter.unusedVariables false
set_option linter.unusedSimpArgs false
namespace Go.Proofs.YteibjmlimcpaoaaDoor
open Go.RowKit Go.Sort

def tabL (t : Tab) : List UInt8 := t.tag.data.toList ++ oneL t.st.toNat ++ twoL t.sz.toNat
theorem tabsGo_all : ∀ (l : List Tab) (acc : List UInt8), (∀ t ∈ l, tabOk t = true) → tabsGo l acc = (acc ++ l.flatMap tabL, true)
  | [], acc, _ => by simp [tabsGo]
  | t :: r, acc, h => by
    rw [tabsGo, if_pos (h t (by simp)), tabsGo_all r _ (fun x hx => h x (by simp [hx]))]
    simp [tabL]
theorem nmsGo_all : ∀ (l : List Nm) (acc : List UInt8), (∀ t ∈ l, nmOk t = true) → nmsGo l acc = (acc ++ l.flatMap nmL, true)
  | [], acc, _ => by simp [nmsGo]
  | t :: r, acc, h => by
    rw [nmsGo, if_pos (h t (by simp)), nmsGo_all r _ (fun x hx => h x (by simp [hx]))]
    simp

set_option maxRecDepth 100000 in
set_option maxHeartbeats 4000000 in
theorem wreport (B b : Nat) (kind hs hf hu rs rv rb nm cs cf cc : Nat) (T N : Value) (lt : List Tab) (ln : List Nm) (l : List UInt8) (w : World) (hBw : B ≤ w.heap.size)
    (q1 : kind < 256) (q2 : hs < 256) (q3 : hf < 65536) (q4 : hu < 65536) (q5 : rs < 256) (q6 : rv < 65536) (q7 : rb < 65536) (q8 : nm < 256) (q9 : cs < 256) (q10 : cf < 65536) (q11 : cc < 4294967296)
    (hlt : lt.length ≤ 16) (hln : ln.length ≤ 20) (okt : ∀ t ∈ lt, tabOk t = true) (okn : ∀ x ∈ ln, nmOk x = true)
    (hT : ∀ w', Below B w w' → RowIs w' T lt.length (tcells lt)) (hN : ∀ w', Below B w w' → RowIs w' N ln.length (ncells ln)) (h : WrAt B b l w) (hl : l.length ≤ 1000) (r : List UInt8)
    (hr : l ++ oneL kind ++ oneL lt.length ++ lt.flatMap tabL ++ oneL hs ++ twoL hf ++ twoL hu ++ oneL rs ++ twoL rv ++ twoL rb ++ oneL nm ++ oneL ln.length ++ ln.flatMap nmL ++ oneL cs ++ twoL cf ++ fourL cc = r) :
    Calls Tryd.prog 57 #[.pointer (some ⟨b, 0, none⟩), .agg #[.int .i64 kind, T, .int .i64 hs, .int .i64 hf, .int .i64 hu, .int .i64 rs, .int .i64 rv, .int .i64 rb, .int .i64 nm, N, .int .i64 cs, .int .i64 cf, .int .i64 cc]] w
      fun e w' => e = .returned (.tuple #[]) ∧ WrAt B b r w' ∧ Below B w w' := by
  have HR := Lib.hid hr
  clear hr
  have two : ∀ n, (twoL n).length = 2 := fun _ => rfl
  have one : ∀ n, (oneL n).length = 1 := fun _ => rfl
  have hbl := wr_lt h
  have HT := Lib.hid hT
  have HN := Lib.hid hN
  have hTs : ∃ ao cap, T = .slice ao lt.length cap := by obtain ⟨ao, cap, h, _⟩ := hT w (Below.refl _ _); exact ⟨_, _, h⟩
  have hNs : ∃ ao cap, N = .slice ao ln.length cap := by obtain ⟨ao, cap, h, _⟩ := hN w (Below.refl _ _); exact ⟨_, _, h⟩
  obtain ⟨tao, tcap, hTe⟩ := hTs
  obtain ⟨nao, ncap, hNe⟩ := hNs
  subst hTe hNe
  clear hT hN
  have W1 := Lib.hid (fun n (l : List UInt8) w (hn : n < 256) (hl : l.length ≤ 1000000) (h : WrAt B b l w) => wone B b n l w hn h (by omega))
  have W2 := Lib.hid (fun n (l : List UInt8) w (hn : n < 65536) (hl : l.length ≤ 1000000) (h : WrAt B b l w) => wtwo B b n l w (by omega) h (by omega))
  obtain ⟨CS, hCS⟩ : ∃ CS : Array Value, #[.int .i64 kind, .slice tao lt.length tcap, .int .i64 hs, .int .i64 hf, .int .i64 hu, .int .i64 rs, .int .i64 rv, .int .i64 rb, .int .i64 nm, .slice nao ln.length ncap, .int .i64 cs, .int .i64 cf, .int .i64 cc] = CS := ⟨_, rfl⟩
  have hCSH := Lib.hid hCS
  have g0 := wr_alloc h (.cells CS 37)
  have a0 := allocAt w (.cells CS 37)
  have b0 : Below B w (w.alloc (.cells CS 37)) := (Below.refl _ _).alloc hBw _
  rw [← hCS] at g0 a0 b0
  clear hCS
  go_enter Tryd.func57, Tryd.ntmps57
  go_wp2_with (go_at_call 82; refine (W1.out kind l _ q1 (by omega) g0).mono ?_; rintro e w1 ⟨rfl, g1, b1, k1⟩; refine Hid.out ?_)
  have a1 := keptAt k1 a0 (by decide) (by omega)
  have x := cellsAt a1 1
  simp only [List.getElem?_toArray, List.getElem?_cons_zero, List.getElem?_cons_succ] at x
  refine Lib.hid ?_
  go_wp2_with (go_at_call 82; refine (W1.out lt.length _ _ (by omega) ?_ g1).mono ?_)
  · simp only [List.length_append, one, two]; omega
  rintro e w2 ⟨rfl, g2, b2, k2⟩
  refine Hid.out ?_
  clear x
  have a2 := keptAt k2 a1 (by decide) (by omega)
  have x := cellsAt a2 1
  simp only [List.getElem?_toArray, List.getElem?_cons_zero, List.getElem?_cons_succ] at x
  have bw2 := b0.trans (b1.trans b2)
  obtain ⟨L2, hL2⟩ : ∃ L2, l ++ oneL kind ++ oneL lt.length = L2 := ⟨_, rfl⟩
  have l2 : L2.length = l.length + 2 := by rw [← hL2]; simp only [List.length_append, one, two]
  rw [hL2] at g2
  have HL2 := Lib.hid hL2
  have hbne : w.heap.size ≠ b := by omega
  clear hL2 g1 g0 a0 a1 b0 b1 b2 k1 k2 h hbl
  refine Lib.hid ?_
  go_wp2
  go_loopw [20] (fun is wr => ∃ (k : Nat), is = .int .i64 k ∧ k ≤ lt.length ∧ Below B w wr ∧ wr.heap[w.heap.size]? = some (.cells #[.int .i64 kind, .slice tao lt.length tcap, .int .i64 hs, .int .i64 hf, .int .i64 hu, .int .i64 rs, .int .i64 rv, .int .i64 rb, .int .i64 nm, .slice nao ln.length ncap, .int .i64 cs, .int .i64 cf, .int .i64 cc] 37 (0, 0)) ∧ WrAt B b (L2 ++ (lt.take k).flatMap tabL) wr ∧ ((lt.take k).flatMap tabL).length = 7 * k) (fun is _ => lt.length - (intOf is).toNat)
  case atStart => exact ⟨0, rfl, Nat.zero_le _, bw2, a2, by simpa using g2, rfl⟩
  case round =>
    clear x
    obtain ⟨k, rfl, hk, hbw, ar, gr, hlk⟩ := hrel
    by_cases hklt : k < lt.length
    · obtain ⟨_, _, hao, hcell⟩ := HT.out _ hbw
      cases hao
      obtain ⟨g, o, rfl, hcl⟩ := hcell (by omega)
      obtain ⟨⟨tag, st, sz⟩, hx⟩ : ∃ x, lt[k]? = some x := ⟨_, List.getElem?_eq_getElem hklt⟩
      obtain ⟨t0, t1, t2⟩ := tcells_at lt k _ hx
      have c0 := hcl _ _ t0
      have c1 := hcl _ _ t1
      have c2 := hcl _ _ t2
      simp only at c0 c1 c2
      rw [← Nat.add_assoc] at c1 c2
      have hok := okt _ (List.mem_of_getElem? hx)
      simp only [tabOk, Bool.and_eq_true, decide_eq_true_eq] at hok
      obtain ⟨⟨o1, o2⟩, o3⟩ := hok
      obtain ⟨sn, rfl, e2⟩ := toB_nat o2
      obtain ⟨zn, rfl, e3⟩ := toB_nat o3
      have htk : (lt.take (k + 1)).flatMap tabL = (lt.take k).flatMap tabL ++ tag.data.toList ++ oneL sn ++ twoL zn := by
        rw [List.take_add_one, hx]; simp [tabL]
      have tl : tag.data.toList.length = 4 := by simp [o1]
      clear hcell hcl t0 t1 t2 hx o2 o3
      have WT := Lib.hid (fun w1 (hB1 : B ≤ w1.heap.size) (h1 : WrAt B b (L2 ++ (lt.take k).flatMap tabL) w1) => wtable B b tag sn zn _ w1 hB1 o1 (by omega) (by omega) h1 (by rw [List.length_append]; omega))
      have HTK := Lib.hid htk
      have HTL := Lib.hid tl
      have hsz := hbw.size
      clear htk tl o1 e2 e3
      go_wp2_with (go_at_call 83; refine (WT.out _ (by simp; omega) (wr_alloc gr _)).mono ?_; rintro e w9 ⟨rfl, g9, b9, k9⟩; refine Hid.out ?_)
      have a9 := keptAt k9 ((Lib.alloc_old wr _ _ (Array.getElem?_eq_some_iff.1 ar).1).trans ar) (by decide) hbne
      have bw9 : Below B w w9 := (hbw.alloc (by omega) _).trans b9
      clear b9 k9 ar gr hbw c0 c1 c2
      refine Lib.hid ?_
      go_wp2
      refine ⟨⟨k + 1, by go_num, by omega, bw9, a9, ?_, ?_⟩, by simp [intOf]; omega⟩
      · rw [HTK.out]
        simpa only [List.append_assoc] using g9
      · rw [HTK.out]
        simp only [List.length_append, one, two]
        have := HTL.out
        omega
    · have hke : lt.take k = lt := List.take_of_length_le (by omega)
      rw [hke] at gr hlk
      obtain ⟨L3, hL3⟩ : ∃ L3, L2 ++ lt.flatMap tabL = L3 := ⟨_, rfl⟩
      have l3 : L3.length ≤ l.length + 2 + 112 := by rw [← hL3]; simp only [List.length_append]; omega
      rw [hL3] at gr
      have HL3 := Lib.hid hL3
      clear hke hL3 hlk
      have hge : ¬ ((k : Int) < (lt.length : Int)) := by omega
      have ar0 := ar
      have gr0 := gr
      have bwq0 := hbw
      clear ar gr hbw
      have x := cellsAt ar0 2
      simp only [List.getElem?_toArray, List.getElem?_cons_zero, List.getElem?_cons_succ] at x
      go_wp2_with (go_at_call 82; refine (W1.out hs L3 _ q2 (by omega) gr0).mono ?_; rintro e u1 ⟨rfl, gr1, bu, ku⟩; refine Hid.out ?_)
      clear x
      have ar1 := keptAt ku ar0 (by decide) hbne
      have bwq1 := bwq0.trans bu
      obtain ⟨M1, hLn⟩ : ∃ X, L3 ++ oneL hs = X := ⟨_, rfl⟩
      have lM1 : M1.length ≤ L3.length + 2 := by rw [← hLn]; simp only [List.length_append, one, two]; omega
      rw [hLn] at gr1
      have HM1 := Lib.hid hLn
      clear hLn bu ku ar0 gr0 bwq0
      refine Lib.hid ?_
      have x := cellsAt ar1 3
      simp only [List.getElem?_toArray, List.getElem?_cons_zero, List.getElem?_cons_succ] at x
      go_wp2_with (go_at_call 84; refine (W2.out hf M1 _ q3 (by omega) gr1).mono ?_; rintro e u2 ⟨rfl, gr2, bu, ku⟩; refine Hid.out ?_)
      clear x
      have ar2 := keptAt ku ar1 (by decide) hbne
      have bwq2 := bwq1.trans bu
      obtain ⟨M2, hLn⟩ : ∃ X, M1 ++ twoL hf = X := ⟨_, rfl⟩
      have lM2 : M2.length ≤ M1.length + 2 := by rw [← hLn]; simp only [List.length_append, one, two]; omega
      rw [hLn] at gr2
      have HM2 := Lib.hid hLn
      clear hLn bu ku ar1 gr1 bwq1
      refine Lib.hid ?_
      have x := cellsAt ar2 4
      simp only [List.getElem?_toArray, List.getElem?_cons_zero, List.getElem?_cons_succ] at x
      go_wp2_with (go_at_call 84; refine (W2.out hu M2 _ q4 (by omega) gr2).mono ?_; rintro e u3 ⟨rfl, gr3, bu, ku⟩; refine Hid.out ?_)
      clear x
      have ar3 := keptAt ku ar2 (by decide) hbne
      have bwq3 := bwq2.trans bu
      obtain ⟨M3, hLn⟩ : ∃ X, M2 ++ twoL hu = X := ⟨_, rfl⟩
      have lM3 : M3.length ≤ M2.length + 2 := by rw [← hLn]; simp only [List.length_append, one, two]; omega
      rw [hLn] at gr3
      have HM3 := Lib.hid hLn
      clear hLn bu ku ar2 gr2 bwq2
      refine Lib.hid ?_
      have x := cellsAt ar3 5
      simp only [List.getElem?_toArray, List.getElem?_cons_zero, List.getElem?_cons_succ] at x
      go_wp2_with (go_at_call 82; refine (W1.out rs M3 _ q5 (by omega) gr3).mono ?_; rintro e u4 ⟨rfl, gr4, bu, ku⟩; refine Hid.out ?_)
      clear x
      have ar4 := keptAt ku ar3 (by decide) hbne
      have bwq4 := bwq3.trans bu
      obtain ⟨M4, hLn⟩ : ∃ X, M3 ++ oneL rs = X := ⟨_, rfl⟩
      have lM4 : M4.length ≤ M3.length + 2 := by rw [← hLn]; simp only [List.length_append, one, two]; omega
      rw [hLn] at gr4
      have HM4 := Lib.hid hLn
      clear hLn bu ku ar3 gr3 bwq3
      refine Lib.hid ?_
      have x := cellsAt ar4 6
      simp only [List.getElem?_toArray, List.getElem?_cons_zero, List.getElem?_cons_succ] at x
      go_wp2_with (go_at_call 84; refine (W2.out rv M4 _ q6 (by omega) gr4).mono ?_; rintro e u5 ⟨rfl, gr5, bu, ku⟩; refine Hid.out ?_)
      clear x
      have ar5 := keptAt ku ar4 (by decide) hbne
      have bwq5 := bwq4.trans bu
      obtain ⟨M5, hLn⟩ : ∃ X, M4 ++ twoL rv = X := ⟨_, rfl⟩
      have lM5 : M5.length ≤ M4.length + 2 := by rw [← hLn]; simp only [List.length_append, one, two]; omega
      rw [hLn] at gr5
      have HM5 := Lib.hid hLn
      clear hLn bu ku ar4 gr4 bwq4
      refine Lib.hid ?_
      have x := cellsAt ar5 7
      simp only [List.getElem?_toArray, List.getElem?_cons_zero, List.getElem?_cons_succ] at x
      go_wp2_with (go_at_call 84; refine (W2.out rb M5 _ q7 (by omega) gr5).mono ?_; rintro e u6 ⟨rfl, gr6, bu, ku⟩; refine Hid.out ?_)
      clear x
      have ar6 := keptAt ku ar5 (by decide) hbne
      have bwq6 := bwq5.trans bu
      obtain ⟨M6, hLn⟩ : ∃ X, M5 ++ twoL rb = X := ⟨_, rfl⟩
      have lM6 : M6.length ≤ M5.length + 2 := by rw [← hLn]; simp only [List.length_append, one, two]; omega
      rw [hLn] at gr6
      have HM6 := Lib.hid hLn
      clear hLn bu ku ar5 gr5 bwq5
      refine Lib.hid ?_
      have x := cellsAt ar6 8
      simp only [List.getElem?_toArray, List.getElem?_cons_zero, List.getElem?_cons_succ] at x
      go_wp2_with (go_at_call 82; refine (W1.out nm M6 _ q8 (by omega) gr6).mono ?_; rintro e u7 ⟨rfl, gr7, bu, ku⟩; refine Hid.out ?_)
      clear x
      have ar7 := keptAt ku ar6 (by decide) hbne
      have bwq7 := bwq6.trans bu
      obtain ⟨M7, hLn⟩ : ∃ X, M6 ++ oneL nm = X := ⟨_, rfl⟩
      have lM7 : M7.length ≤ M6.length + 2 := by rw [← hLn]; simp only [List.length_append, one, two]; omega
      rw [hLn] at gr7
      have HM7 := Lib.hid hLn
      clear hLn bu ku ar6 gr6 bwq6
      refine Lib.hid ?_
      have x := cellsAt ar7 9
      simp only [List.getElem?_toArray, List.getElem?_cons_zero, List.getElem?_cons_succ] at x
      go_wp2_with (go_at_call 82; refine (W1.out ln.length M7 _ (by omega) (by omega) gr7).mono ?_; rintro e u8 ⟨rfl, gr8, bu, ku⟩; refine Hid.out ?_)
      clear x
      have ar8 := keptAt ku ar7 (by decide) hbne
      have bwq8 := bwq7.trans bu
      obtain ⟨M8, hLn⟩ : ∃ X, M7 ++ oneL ln.length = X := ⟨_, rfl⟩
      have lM8 : M8.length ≤ M7.length + 2 := by rw [← hLn]; simp only [List.length_append, one, two]; omega
      rw [hLn] at gr8
      have HM8 := Lib.hid hLn
      clear hLn bu ku ar7 gr7 bwq7
      refine Lib.hid ?_
      have x := cellsAt ar8 9
      simp only [List.getElem?_toArray, List.getElem?_cons_zero, List.getElem?_cons_succ] at x
      go_wp2
      clear x
      go_loopw [70] (fun is wr' => ∃ (k : Nat), is = .int .i64 k ∧ k ≤ ln.length ∧ Below B w wr' ∧ wr'.heap[w.heap.size]? = some (.cells #[.int .i64 kind, .slice tao lt.length tcap, .int .i64 hs, .int .i64 hf, .int .i64 hu, .int .i64 rs, .int .i64 rv, .int .i64 rb, .int .i64 nm, .slice nao ln.length ncap, .int .i64 cs, .int .i64 cf, .int .i64 cc] 37 (0, 0)) ∧ WrAt B b (M8 ++ (ln.take k).flatMap nmL) wr' ∧ ((ln.take k).flatMap nmL).length ≤ 71 * k) (fun is _ => ln.length - (intOf is).toNat)
      case atStart => exact ⟨0, rfl, Nat.zero_le _, bwq8, ar8, by simpa using gr8, by simp⟩
      case round =>
        clear ar8 gr8 bwq8
        obtain ⟨j, rfl, hj, hbw, ar, gr, hlj⟩ := hrel
        by_cases hjlt : j < ln.length
        · obtain ⟨_, _, hao, hcell⟩ := HN.out _ hbw
          cases hao
          obtain ⟨g, o, rfl, hcl⟩ := hcell (by omega)
          obtain ⟨⟨pl, en, la, id, st, ms, tx⟩, hx⟩ : ∃ x, ln[j]? = some x := ⟨_, List.getElem?_eq_getElem hjlt⟩
          obtain ⟨t0, t1, t2, t3, t4, t5, t6⟩ := ncells_at ln j _ hx
          have c0 := hcl _ _ t0
          have c1 := hcl _ _ t1
          have c2 := hcl _ _ t2
          have c3 := hcl _ _ t3
          have c4 := hcl _ _ t4
          have c5 := hcl _ _ t5
          have c6 := hcl _ _ t6
          simp only at c0 c1 c2 c3 c4 c5 c6
          rw [← Nat.add_assoc] at c1 c2 c3 c4 c5 c6
          have hok := okn _ (List.mem_of_getElem? hx)
          simp only [nmOk, Bool.and_eq_true] at hok
          obtain ⟨⟨⟨⟨⟨⟨o1, o2⟩, o3⟩, o4⟩, o5⟩, o6⟩, o7⟩ := hok
          have o8 := properB_size tx o7
          obtain ⟨pl, rfl, e1⟩ := toB_nat o1
          obtain ⟨en, rfl, e2⟩ := toB_nat o2
          obtain ⟨la, rfl, e3⟩ := toB_nat o3
          obtain ⟨id, rfl, e4⟩ := toB_nat o4
          obtain ⟨st, rfl, e5⟩ := toB_nat o5
          obtain ⟨ms, rfl, e6⟩ := toB_nat o6
          have htk : (ln.take (j + 1)).flatMap nmL = (ln.take j).flatMap nmL ++ twoL pl ++ twoL en ++ twoL la ++ twoL id ++ oneL st ++ oneL ms ++ oneL tx.size ++ tx.data.toList := by
            rw [List.take_add_one, hx]; simp [nmL]
          have tl : tx.data.toList.length ≤ 60 := by simpa using o8
          clear hcell hcl t0 t1 t2 t3 t4 t5 t6 hx o1 o2 o3 o4 o5 o6 o7
          have WN := Lib.hid (fun w1 (hB1 : B ≤ w1.heap.size) (h1 : WrAt B b (M8 ++ (ln.take j).flatMap nmL) w1) => wname B b pl en la id st ms tx _ w1 hB1 (by omega) (by omega) (by omega) (by omega) (by omega) (by omega) o8 h1 (by rw [List.length_append]; omega))
          have HTK := Lib.hid htk
          have HTL := Lib.hid tl
          have hsz := hbw.size
          clear htk tl e1 e2 e3 e4 e5 e6 o8
          go_wp2_with (go_at_call 85; refine (WN.out _ (by simp; omega) (wr_alloc gr _)).mono ?_; rintro e w9 ⟨rfl, g9, b9, k9⟩; refine Hid.out ?_)
          have a9 := keptAt (T := 37) k9 ((Lib.alloc_old _ _ _ (Array.getElem?_eq_some_iff.1 ar).1).trans ar) (by decide) hbne
          have bw9 : Below B w w9 := (hbw.alloc (by omega) _).trans b9
          clear b9 k9 ar gr hbw c0 c1 c2 c3 c4 c5 c6
          refine Lib.hid ?_
          go_wp2
          refine ⟨⟨j + 1, by go_num, by omega, bw9, a9, ?_, ?_⟩, by simp [intOf]; omega⟩
          · rw [HTK.out]
            simpa only [List.append_assoc] using g9
          · rw [HTK.out]
            simp only [List.length_append, one, two]
            have := HTL.out
            omega
        · have hke : ln.take j = ln := List.take_of_length_le (by omega)
          rw [hke] at gr hlj
          obtain ⟨M9, hM9⟩ : ∃ X, M8 ++ ln.flatMap nmL = X := ⟨_, rfl⟩
          have l9 : M9.length ≤ M8.length + 71 * 20 := by rw [← hM9]; simp only [List.length_append]; omega
          rw [hM9] at gr
          have HM9 := Lib.hid hM9
          clear hke hM9 hlj
          have hge : ¬ ((j : Int) < (ln.length : Int)) := by omega
          have x := cellsAt ar 10
          simp only [List.getElem?_toArray, List.getElem?_cons_zero, List.getElem?_cons_succ] at x
          go_wp2_with (go_at_call 82; refine (W1.out cs M9 _ q9 (by omega) gr).mono ?_; rintro e v1 ⟨rfl, g1, bu1, ku1⟩; refine Hid.out ?_)
          clear x
          have ar1 := keptAt ku1 ar (by decide) hbne
          have x := cellsAt ar1 11
          simp only [List.getElem?_toArray, List.getElem?_cons_zero, List.getElem?_cons_succ] at x
          refine Lib.hid ?_
          go_wp2_with (go_at_call 84; refine (W2.out cf _ _ q10 ?_ g1).mono ?_)
          · simp only [List.length_append, one, two]; omega
          rintro e v2 ⟨rfl, g2, bu2, ku2⟩
          refine Hid.out ?_
          clear x
          have ar2 := keptAt ku2 ar1 (by decide) hbne
          have x := cellsAt ar2 12
          simp only [List.getElem?_toArray, List.getElem?_cons_zero, List.getElem?_cons_succ] at x
          refine Lib.hid ?_
          go_wp2_with (go_at_call 86; refine (wfour B b cc _ _ q11 g2 ?_).mono ?_)
          · simp only [List.length_append, one, two]; omega
          rintro e v3 ⟨rfl, g3, bu3, ku3⟩
          clear x
          go_wp2
          go_end0
          refine ⟨rfl, ?_, hbw.trans (bu1.trans (bu2.trans bu3))⟩
          rw [← HR.out]
          rw [← HM9.out, ← HM8.out, ← HM7.out, ← HM6.out, ← HM5.out, ← HM4.out, ← HM3.out, ← HM2.out, ← HM1.out, ← HL3.out, ← HL2.out] at g3
          exact g3
end Go.Proofs.YteibjmlimcpaoaaDoor

set_option linter.unusedVariables false
set_option linter.unusedSimpArgs false
namespace Go.Proofs.YteibjmlimcpaoaaDoor
open Go.RowKit Go.Sort

theorem run_copyN (w : World) (dT sT ty elem : TypeId) (k g m cap : Nat) (cur : Array Value) (t : TypeId) (v : Value) (n : Nat) (xs : List Value)
    (hu : Tryd.prog.underlying dT = some (.slice elem)) (hs : (Tryd.prog.info? elem).map (·.size) = some k)
    (hg : w.heap[g]? = some (.cells cur t (0, 0))) (hv : RowIs w v n xs) (hxs : xs.length = n * k) (hnm : n ≤ m) (hfit : xs.length ≤ cur.size) (h1 : ∀ u ∈ xs, u.oneCell' = true) :
    (Builtin.copy_ #[dT, sT] ty #[.slice (some ⟨g, 0, none⟩) m cap, v]).run Tryd.prog w = .ok (.int .i64 n) (w.setRow g (xs ++ cur.toList.drop xs.length).toArray) := by
  obtain ⟨ao, c, rfl, hc⟩ := hv
  have hst := run_storeCells_at Tryd.prog g 0 t xs 0 cur w hg (by simpa using hfit) h1
  simp only [Nat.add_zero, Nat.zero_add, List.take_zero, List.nil_append] at hst
  cases hq : Tryd.prog.info? elem with
  | none => simp [hq] at hs
  | some i =>
    have hi : i.size = k := by simpa [hq] using hs
    have hmin : Nat.min n m = n := Nat.min_eq_left hnm
    by_cases hn : n = 0
    · subst hn
      have : xs = [] := List.eq_nil_of_length_eq_zero (by omega)
      subst this
      have hl0 : ∀ a : Addr, (loadCells a 0).run Tryd.prog w = .ok #[] w := fun a => run_loadCells_list (P := Tryd.prog) w a [] (by simp)
      cases ao with
      | none => simp [Builtin.copy_, run_underlying hu, Builtin.lenOf, Builtin.firstCells, sizeOf, typeInfo, hq, hi, hmin, hst, goInt]
      | some a => simp [Builtin.copy_, run_underlying hu, Builtin.lenOf, Builtin.firstCells, sizeOf, typeInfo, hq, hi, hmin, hl0, hst, goInt]
    · obtain ⟨g', o', rfl, hcl⟩ := hc (by omega)
      have hl := run_loadCells_list (P := Tryd.prog) w ⟨g', o', none⟩ xs (fun j u hj => by rw [addr_add]; exact hcl j u hj)
      rw [hxs] at hl
      simp [Builtin.copy_, run_underlying hu, Builtin.lenOf, Builtin.firstCells, sizeOf, typeInfo, hq, hi, hmin, hl, hst, goInt]

theorem upon_copyN {o : Oper} {a : Act} {K : Act → World → Prop} {Q : Exit → Act → World → Prop} (w : World) (dT sT ty elem : TypeId) (k g m cap : Nat) (cur : Array Value) (t : TypeId) (v : Value) (n : Nat) (xs : List Value)
    (hu : Tryd.prog.underlying dT = some (.slice elem)) (hsz : (Tryd.prog.info? elem).map (·.size) = some k)
    (hg : w.heap[g]? = some (.cells cur t (0, 0))) (hv : RowIs w v n xs) (hxs : xs.length = n * k) (hnm : n ≤ m) (hfit : xs.length ≤ cur.size) (h1 : ∀ u ∈ xs, u.oneCell' = true)
    (h : ∀ w', w'.heap[g]? = some (.cells (xs ++ cur.toList.drop xs.length).toArray t (0, 0)) → (∀ j, j ≠ g → w'.heap[j]? = w.heap[j]?) → Below g w w' → K (a.put o.dst (.int .i64 n)) w') :
    Oper.upon Tryd.prog o a K Q ((Sem.run Tryd.prog (Builtin.copy_ #[dT, sT] ty #[.slice (some ⟨g, 0, none⟩) m cap, v]) w).andThen fun a w' => Result.ok (Next.value a) w') := by
  rw [run_copyN w dT sT ty elem k g m cap cur t v n xs hu hsz hg hv hxs hnm hfit h1]
  simp only [Result.andThen]
  rw [Oper.upon_value]
  exact h _ (setRow_heap w g _ _ t _ hg) (fun j hj => setRow_other w g j _ hj) (below_setRow (Below.refl _ _) (Nat.le_refl _) _)
theorem allocAtN (w : World) (o : Obj) (g : Nat) (hg : g = w.heap.size) : (w.alloc o).heap[g]? = some o := by
  subst hg
  exact allocAt w o
theorem allocOldN {w : World} {k : Nat} {o o' : Obj} (h : w.heap[k]? = some o) : (w.alloc o').heap[k]? = some o :=
  (Lib.alloc_old w o' k (Array.getElem?_eq_some_iff.1 h).1).trans h

/-- stores into cells that stand side by side in one row -/
def setAll (w : World) (g : Nat) : Nat → List Value → World
  | _, [] => w
  | i, v :: vs => setAll (w.setCell ⟨g, i, none⟩ v) g (i + 1) vs
theorem setAll_row (g : Nat) (t : TypeId) : ∀ (vs : List Value) (i : Nat) (w : World) (cur : Array Value) (A B C : List Value), w.heap[g]? = some (.cells cur t (0, 0)) → cur.toList = A ++ B ++ C → A.length = i → B.length = vs.length →
    ∃ cur', (setAll w g i vs).heap[g]? = some (.cells cur' t (0, 0)) ∧ cur'.toList = A ++ vs ++ C
  | [], i, w, cur, A, B, C, hg, hc, hA, hB => by
    have : B = [] := List.eq_nil_of_length_eq_zero hB
    subst this
    exact ⟨cur, hg, hc⟩
  | v :: vs, i, w, cur, A, [], C, hg, hc, hA, hB => by simp at hB
  | v :: vs, i, w, cur, A, b :: B, C, hg, hc, hA, hB => by
    have h2 : (w.setCell ⟨g, i, none⟩ v).heap[g]? = some (.cells (cur.setIfInBounds i v) t (0, 0)) := by
      rw [setCell_eq_setRow w g i cur t (0, 0) v hg]
      exact setRow_heap w g cur _ t _ hg
    have h3 : (cur.setIfInBounds i v).toList = (A ++ [v]) ++ B ++ C := by
      rw [Array.toList_setIfInBounds, hc, ← hA]
      simp
    obtain ⟨cur', e1, e2⟩ := setAll_row g t vs (i + 1) _ _ (A ++ [v]) B C h2 h3 (by simp [hA]) (by simpa using hB)
    exact ⟨cur', e1, by rw [e2]; simp⟩
theorem setAll_other (g : Nat) : ∀ (vs : List Value) (i : Nat) (w : World) (k : Nat), k ≠ g → (setAll w g i vs).heap[k]? = w.heap[k]?
  | [], i, w, k, h => rfl
  | v :: vs, i, w, k, h => by
    rw [setAll, setAll_other g vs (i + 1) _ k h]
    exact Below.heap_setCell _ _ _ _ (fun e => h e)
theorem setAll_below {B g : Nat} (hB : B ≤ g) : ∀ (vs : List Value) (i : Nat) (a w : World), Below B a w → Below B a (setAll w g i vs)
  | [], i, a, w, h => h
  | v :: vs, i, a, w, h => setAll_below hB vs (i + 1) a _ (h.setCell (p := ⟨g, i, none⟩) hB v)
theorem frozenAt {k : Nat} {w : World} {cs : Array Value} {T : TypeId} (h : w.heap[k]? = some (.cells cs T (0, 0))) (i : Nat) : w.frozen? ⟨k, i, none⟩ = false := by
  simp [World.frozen?, h]

theorem sizeT : (Tryd.prog.info? 77).map (·.size) = some 3 := by kernel_rfl
theorem sizeN : (Tryd.prog.info? 79).map (·.size) = some 7 := by kernel_rfl
theorem wrapL (x : Int) (h0 : 0 ≤ x) (h1 : x < 9223372036854775808) : IntKind.i64.wrap x = x := by
  rw [IntKind.wrap_i64]
  omega
theorem infoT : (Tryd.prog.info? 77).map (fun i => (i.zero, i.size, i.bytes)) = some (some (.agg #[.string ⟨#[]⟩, .int .i64 0, .int .i64 0]), 3, 32) := by kernel_rfl
theorem infoN : (Tryd.prog.info? 79).map (fun i => (i.zero, i.size, i.bytes)) = some (some (.agg #[.int .i64 0, .int .i64 0, .int .i64 0, .int .i64 0, .int .i64 0, .int .i64 0, .string ⟨#[]⟩]), 7, 64) := by kernel_rfl
theorem makeT (n : Nat) (hn : n ≤ 4398046510976) : ∃ MT : Array Value, MT.size = (n + 8) * 3 ∧ ∀ W : World, (Instr.makeSlice 28 (.int .i64 ((n : Int) + 8)) (.int .i64 ((n : Int) + 8))).run Tryd.prog W = .ok (.slice (some ⟨W.heap.size, 0, none⟩) (n + 8) (n + 8)) (W.alloc (.cells MT 77)) := by
  obtain ⟨i0, hi, hz0, hz1, hz2⟩ := info_parts infoT
  have h := fun W => run_make (P := Tryd.prog) W 28 77 i0 _ Tryd.underlying28 hi hz0 .i64 .i64 ((n : Int) + 8) ((n : Int) + 8) (by omega) (by omega) (by rw [hz2]; omega) (by omega)
  rw [show ((n : Int) + 8).toNat = n + 8 by omega, hz1] at h
  exact ⟨_, size_madeCells _ _, h⟩
theorem makeN (n : Nat) (hn : n ≤ 2199023255488) : ∃ MT : Array Value, MT.size = (n + 8) * 7 ∧ ∀ W : World, (Instr.makeSlice 33 (.int .i64 ((n : Int) + 8)) (.int .i64 ((n : Int) + 8))).run Tryd.prog W = .ok (.slice (some ⟨W.heap.size, 0, none⟩) (n + 8) (n + 8)) (W.alloc (.cells MT 79)) := by
  obtain ⟨i0, hi, hz0, hz1, hz2⟩ := info_parts infoN
  have h := fun W => run_make (P := Tryd.prog) W 33 79 i0 _ Tryd.underlying33 hi hz0 .i64 .i64 ((n : Int) + 8) ((n : Int) + 8) (by omega) (by omega) (by rw [hz2]; omega) (by omega)
  rw [show ((n : Int) + 8).toNat = n + 8 by omega, hz1] at h
  exact ⟨_, size_madeCells _ _, h⟩

def padT : Tab := ⟨⟨#[]⟩, 0, -77⟩
def padN : Nm := ⟨0, 0, 0, -77, 0, 0, ⟨#[]⟩⟩
theorem tcells_length : ∀ l : List Tab, (tcells l).length = l.length * 3
  | [] => rfl
  | t :: r => by simp only [tcells, List.length_cons, tcells_length r]; omega
theorem ncells_length : ∀ l : List Nm, (ncells l).length = l.length * 7
  | [] => rfl
  | t :: r => by simp only [ncells, List.length_cons, ncells_length r]; omega
theorem tcells_one : ∀ (l : List Tab), ∀ u ∈ tcells l, u.oneCell' = true
  | [], u, h => by cases h
  | t :: r, u, h => by
    simp only [tcells, List.mem_cons] at h
    rcases h with rfl | rfl | rfl | h
    · rfl
    · rfl
    · rfl
    · exact tcells_one r u h
theorem ncells_one : ∀ (l : List Nm), ∀ u ∈ ncells l, u.oneCell' = true
  | [], u, h => by cases h
  | t :: r, u, h => by
    simp only [ncells, List.mem_cons] at h
    rcases h with rfl | rfl | rfl | rfl | rfl | rfl | rfl | h
    · rfl
    · rfl
    · rfl
    · rfl
    · rfl
    · rfl
    · rfl
    · exact ncells_one r u h
theorem tcells_append (a b : List Tab) : tcells (a ++ b) = tcells a ++ tcells b := by
  induction a with
  | nil => rfl
  | cons t r ih => simp [tcells, ih]
theorem ncells_append (a b : List Nm) : ncells (a ++ b) = ncells a ++ ncells b := by
  induction a with
  | nil => rfl
  | cons t r ih => simp [ncells, ih]

set_option maxRecDepth 100000 in
set_option maxHeartbeats 2000000 in
theorem lent12 (kind hs hf hu rs rv rb nm cs cf cc : Int) (T N : Value) (lt : List Tab) (ln : List Nm) (w : World)
    (hlt : lt.length ≤ 4398046510976) (hln : ln.length ≤ 2199023255488) (hT : RowIs w T lt.length (tcells lt)) (hN : RowIs w N ln.length (ncells ln)) :
    Calls Tryd.prog 14 #[.agg #[.int .i64 kind, T, .int .i64 hs, .int .i64 hf, .int .i64 hu, .int .i64 rs, .int .i64 rv, .int .i64 rb, .int .i64 nm, N, .int .i64 cs, .int .i64 cf, .int .i64 cc]] w
      fun e w' => Below w.heap.size w w' ∧ ∃ gt gn ct cn, e = .returned (.agg #[.int .i64 kind, .slice (some ⟨gt, 0, none⟩) lt.length (lt.length + 8), .int .i64 hs, .int .i64 hf, .int .i64 hu, .int .i64 rs, .int .i64 rv, .int .i64 rb, .int .i64 nm, .slice (some ⟨gn, 0, none⟩) ln.length (ln.length + 8), .int .i64 cs, .int .i64 cf, .int .i64 cc])
        ∧ w'.heap[gt]? = some (.cells ct 77 (0, 0)) ∧ ct.toList = tcells (lt ++ List.replicate 8 padT) ∧ w'.heap[gn]? = some (.cells cn 79 (0, 0)) ∧ cn.toList = ncells (ln ++ List.replicate 8 padN) := by
  have hTs : ∃ ao cap, T = .slice ao lt.length cap := by obtain ⟨ao, cap, h, _⟩ := hT; exact ⟨_, _, h⟩
  have hNs : ∃ ao cap, N = .slice ao ln.length cap := by obtain ⟨ao, cap, h, _⟩ := hN; exact ⟨_, _, h⟩
  obtain ⟨tao, tcap, hTe⟩ := hTs
  obtain ⟨nao, ncap, hNe⟩ := hNs
  subst hTe hNe
  have HT := Lib.hid hT
  have HN := Lib.hid hN
  clear hT hN
  have w1 := wrapL ((lt.length : Int) + 8) (by omega) (by omega)
  have w2 := wrapL ((ln.length : Int) + 8) (by omega) (by omega)
  obtain ⟨MT, sMT, mkT⟩ := makeT lt.length hlt
  obtain ⟨MN, sMN, mkN⟩ := makeN ln.length hln
  go_enter Tryd.func14, Tryd.ntmps14
  go_wp2_with fail
  refine upon_copyN _ 28 28 3 77 3 (w.heap.size + 1 + 1 + 1) _ _ MT 77 _ lt.length (tcells lt) Tryd.underlying28 sizeT (allocAtN _ _ _ (by simp)) (HT.out.on (((((Below.refl _ _).alloc (Nat.le_refl _) _).alloc (by simp) _).alloc (by simp <;> omega) _).alloc (by simp <;> omega) _)) (tcells_length lt) (by omega) (by rw [sMT, tcells_length]; omega) (tcells_one lt) ?_
  intro w3 hg3 ho3 hb3
  have p0 := (ho3 w.heap.size (by omega)).trans (allocOldN (allocOldN (allocOldN (allocAt _ _))))
  have p1 := (ho3 (w.heap.size + 1) (by omega)).trans (allocOldN (allocOldN (allocAtN _ _ _ (by simp))))
  have p2 := (ho3 (w.heap.size + 1 + 1) (by omega)).trans (allocOldN (allocAtN _ _ _ (by simp)))
  have bw3 : Below w.heap.size w w3 := (((((Below.refl _ _).alloc (Nat.le_refl _) _).alloc (by simp) _).alloc (by simp <;> omega) _).alloc (by simp <;> omega) _).trans (hb3.mono (by omega))
  have lMT : (MT.toList.drop (tcells lt).length).length = 8 * 3 := by rw [List.length_drop, Array.length_toList, sMT, tcells_length]; omega
  generalize MT.toList.drop (tcells lt).length = ZT at *
  clear ho3 hb3 mkT sMT HT
  obtain ⟨gt, hgt⟩ : ∃ g, w.heap.size + 1 + 1 + 1 = g := ⟨_, rfl⟩
  obtain ⟨px, hpx⟩ : ∃ g, w.heap.size + 1 + 1 = g := ⟨_, rfl⟩
  obtain ⟨pr, hpr⟩ : ∃ g, w.heap.size + 1 = g := ⟨_, rfl⟩
  rw [hgt] at hg3 ⊢
  rw [hpx] at p2 ⊢
  rw [hpr] at p1 ⊢
  have n1 : w.heap.size < pr := by omega
  have n2 : pr < px := by omega
  have n3 : px < gt := by omega
  clear hgt hpx hpr
  have x1 := cellsAt p0 1
  simp only [List.getElem?_toArray, List.getElem?_cons_zero, List.getElem?_cons_succ] at x1
  go_wp2
  go_loopw [5] (fun is wr => ∃ (k : Nat) (cur : Array Value) (rest : List Value), is = .int .i64 ((lt.length + k : Nat) : Int) ∧ k ≤ 8 ∧ Below w.heap.size w wr ∧ wr.heap[w.heap.size]? = some (.cells #[.int .i64 kind, .slice tao lt.length tcap, .int .i64 hs, .int .i64 hf, .int .i64 hu, .int .i64 rs, .int .i64 rv, .int .i64 rb, .int .i64 nm, .slice nao ln.length ncap, .int .i64 cs, .int .i64 cf, .int .i64 cc] 37 (0, 0)) ∧ wr.heap[pr]? = some (.cells #[.int .i64 0, .slice none 0 0, .int .i64 0, .int .i64 0, .int .i64 0, .int .i64 0, .int .i64 0, .int .i64 0, .int .i64 0, .slice none 0 0, .int .i64 0, .int .i64 0, .int .i64 0] 37 (0, 0)) ∧ wr.heap[px]? = some (.cells #[.int .i64 kind, .slice tao lt.length tcap, .int .i64 hs, .int .i64 hf, .int .i64 hu, .int .i64 rs, .int .i64 rv, .int .i64 rb, .int .i64 nm, .slice nao ln.length ncap, .int .i64 cs, .int .i64 cf, .int .i64 cc] 37 (0, 0)) ∧ wr.heap[gt]? = some (.cells cur 77 (0, 0)) ∧ cur.toList = tcells (lt ++ List.replicate k padT) ++ rest ∧ rest.length = (8 - k) * 3) (fun is _ => lt.length + 8 - (intOf is).toNat)
  case atStart => exact ⟨0, _, ZT, rfl, by omega, bw3, p0, p1, p2, hg3, by simp, by omega⟩
  case round =>
    obtain ⟨k, cur, rest, rfl, hk, hbw, q0, q1, q2, qg, hcur, hrest⟩ := hrel
    clear p0 p1 p2 hg3 bw3 x1
    by_cases hklt : k < 8
    · obtain ⟨a, b, c, rest, rfl⟩ : ∃ a b c r, rest = a :: b :: c :: r := by
        match rest, hrest with
        | a :: b :: c :: r, _ => exact ⟨a, b, c, r, rfl⟩
        | [], h => simp at h; omega
        | [_], h => simp at h; omega
        | [_, _], h => simp at h; omega
      have hsz : cur.size = (lt.length + 8) * 3 := by
        rw [← Array.length_toList, hcur, List.length_append, tcells_length, List.length_append, List.length_replicate]
        simp only [List.length_cons] at hrest ⊢
        omega
      have hA : (tcells (lt ++ List.replicate k padT)).length = (lt.length + k) * 3 := by rw [tcells_length, List.length_append, List.length_replicate]
      have y0 := cellsAt qg ((lt.length + k) * 3)
      have y1 := cellsAt qg ((lt.length + k) * 3 + 1)
      have y2 := cellsAt qg ((lt.length + k) * 3 + 2)
      rw [← Array.getElem?_toList, hcur, List.getElem?_append_right (by omega), hA] at y0 y1 y2
      rw [show (lt.length + k) * 3 - (lt.length + k) * 3 = 0 by omega] at y0
      rw [show (lt.length + k) * 3 + 1 - (lt.length + k) * 3 = 1 by omega] at y1
      rw [show (lt.length + k) * 3 + 2 - (lt.length + k) * 3 = 2 by omega] at y2
      simp only [List.getElem?_cons_zero, List.getElem?_cons_succ] at y0 y1 y2
      have f0 := frozenAt qg ((lt.length + k) * 3)
      have f1 := frozenAt qg ((lt.length + k) * 3 + 1)
      have f2 := frozenAt qg ((lt.length + k) * 3 + 2)
      obtain ⟨cur', e1, e2⟩ := setAll_row gt 77 [.string ⟨#[]⟩, .int .i64 0, .int .i64 (-77)] ((lt.length + k) * 3) wr cur (tcells (lt ++ List.replicate k padT)) [a, b, c] rest qg (by rw [hcur]; simp) hA rfl
      have e3 : tcells (lt ++ List.replicate (k + 1) padT) = tcells (lt ++ List.replicate k padT) ++ [.string ⟨#[]⟩, .int .i64 0, .int .i64 (-77)] := by
        rw [List.replicate_succ', ← List.append_assoc, tcells_append]
        rfl
      have E3 := Lib.hid e3
      have E2 := Lib.hid e2
      have i0 : ((lt.length : Int) + (k : Int)) < (lt.length : Int) + 8 := by omega
      have i1 : (0 : Int) ≤ (lt.length : Int) + (k : Int) := by omega
      have bs : Below w.heap.size w (setAll wr gt ((lt.length + k) * 3) [.string ⟨#[]⟩, .int .i64 0, .int .i64 (-77)]) := setAll_below (by omega) _ _ _ _ hbw
      have s0 := (setAll_other gt [.string ⟨#[]⟩, .int .i64 0, .int .i64 (-77)] ((lt.length + k) * 3) wr w.heap.size (by omega)).trans q0
      have s1 := (setAll_other gt [.string ⟨#[]⟩, .int .i64 0, .int .i64 (-77)] ((lt.length + k) * 3) wr pr (by omega)).trans q1
      have s2 := (setAll_other gt [.string ⟨#[]⟩, .int .i64 0, .int .i64 (-77)] ((lt.length + k) * 3) wr px (by omega)).trans q2
      clear hA e2 e3 hcur hsz
      simp only [List.length_cons] at hrest
      go_wp2
      refine ⟨⟨k + 1, cur', rest, ?_, by omega, bs, s0, s1, s2, e1, ?_, by omega⟩, by simp [intOf]; omega⟩
      · go_num
      · rw [E2.out, E3.out]
    · obtain rfl : k = 8 := by omega
      have hr0 : rest = [] := List.eq_nil_of_length_eq_zero (by omega)
      subst hr0
      rw [List.append_nil] at hcur
      have HCUR := Lib.hid hcur
      have x9 := cellsAt q0 9
      have x9b := cellsAt (allocOldN (o' := .cells MN 79) q0) 9
      simp only [List.getElem?_toArray, List.getElem?_cons_zero, List.getElem?_cons_succ] at x9 x9b
      have hwr := hbw.size
      have hgl := (Array.getElem?_eq_some_iff.1 qg).1
      clear hcur hrest
      go_wp2_with fail
      refine upon_copyN _ 33 33 3 79 7 wr.heap.size (ln.length + 8) (ln.length + 8) MN 79 _ ln.length (ncells ln) Tryd.underlying33 sizeN (allocAt _ _) (HN.out.on (hbw.alloc (by omega) _)) (ncells_length ln) (by omega) (by rw [sMN, ncells_length]; omega) (ncells_one ln) ?_
      intro w4 hg4 ho4 hb4
      have r0 := (ho4 w.heap.size (by omega)).trans (allocOldN q0)
      have r1 := (ho4 pr (by omega)).trans (allocOldN q1)
      have r2 := (ho4 px (by omega)).trans (allocOldN q2)
      have rg := (ho4 gt (by omega)).trans (allocOldN qg)
      have bw4 : Below w.heap.size w w4 := (hbw.alloc (by omega) _).trans (hb4.mono (by omega))
      have lMN : (MN.toList.drop (ncells ln).length).length = 8 * 7 := by rw [List.length_drop, Array.length_toList, sMN, ncells_length]; omega
      generalize MN.toList.drop (ncells ln).length = ZN at *
      obtain ⟨gn, hgn⟩ : ∃ g, wr.heap.size = g := ⟨_, rfl⟩
      rw [hgn] at hg4 ⊢
      have n4 : gt < gn := by omega
      clear hgn ho4 hb4 mkN sMN HN x9 x9b q0 q1 q2 qg hbw hwr hgl
      have x9 := cellsAt r0 9
      simp only [List.getElem?_toArray, List.getElem?_cons_zero, List.getElem?_cons_succ] at x9
      go_wp2
      go_loopw [7] (fun is wr => ∃ (k : Nat) (curN : Array Value) (rest : List Value), is = .int .i64 ((ln.length + k : Nat) : Int) ∧ k ≤ 8 ∧ Below w.heap.size w wr ∧ wr.heap[w.heap.size]? = some (.cells #[.int .i64 kind, .slice tao lt.length tcap, .int .i64 hs, .int .i64 hf, .int .i64 hu, .int .i64 rs, .int .i64 rv, .int .i64 rb, .int .i64 nm, .slice nao ln.length ncap, .int .i64 cs, .int .i64 cf, .int .i64 cc] 37 (0, 0)) ∧ wr.heap[pr]? = some (.cells #[.int .i64 0, .slice none 0 0, .int .i64 0, .int .i64 0, .int .i64 0, .int .i64 0, .int .i64 0, .int .i64 0, .int .i64 0, .slice none 0 0, .int .i64 0, .int .i64 0, .int .i64 0] 37 (0, 0)) ∧ wr.heap[px]? = some (.cells #[.int .i64 kind, .slice tao lt.length tcap, .int .i64 hs, .int .i64 hf, .int .i64 hu, .int .i64 rs, .int .i64 rv, .int .i64 rb, .int .i64 nm, .slice nao ln.length ncap, .int .i64 cs, .int .i64 cf, .int .i64 cc] 37 (0, 0)) ∧ wr.heap[gt]? = some (.cells cur 77 (0, 0)) ∧ wr.heap[gn]? = some (.cells curN 79 (0, 0)) ∧ curN.toList = ncells (ln ++ List.replicate k padN) ++ rest ∧ rest.length = (8 - k) * 7) (fun is _ => ln.length + 8 - (intOf is).toNat)
      case atStart => exact ⟨0, _, ZN, rfl, by omega, bw4, r0, r1, r2, rg, hg4, by simp, by omega⟩
      case round =>
        obtain ⟨k, curN, rest, rfl, hk, hbw, q0, q1, q2, qt, qg, hcur, hrest⟩ := hrel
        clear r0 r1 r2 rg hg4 bw4 x9
        by_cases hklt : k < 8
        · obtain ⟨c0, c1, c2, c3, c4, c5, c6, rest, rfl⟩ : ∃ c0 c1 c2 c3 c4 c5 c6 r, rest = c0 :: c1 :: c2 :: c3 :: c4 :: c5 :: c6 :: r := by
            match rest, hrest with
            | c0 :: c1 :: c2 :: c3 :: c4 :: c5 :: c6 :: r, _ => exact ⟨c0, c1, c2, c3, c4, c5, c6, r, rfl⟩
            | [], h => simp at h; omega
            | [_], h => simp at h; omega
            | [_, _], h => simp at h; omega
            | [_, _, _], h => simp at h; omega
            | [_, _, _, _], h => simp at h; omega
            | [_, _, _, _, _], h => simp at h; omega
            | [_, _, _, _, _, _], h => simp at h; omega
          have hA : (ncells (ln ++ List.replicate k padN)).length = (ln.length + k) * 7 := by rw [ncells_length, List.length_append, List.length_replicate]
          have y0 := cellsAt qg ((ln.length + k) * 7)
          have y1 := cellsAt qg ((ln.length + k) * 7 + 1)
          have y2 := cellsAt qg ((ln.length + k) * 7 + 2)
          have y3 := cellsAt qg ((ln.length + k) * 7 + 3)
          have y4 := cellsAt qg ((ln.length + k) * 7 + 4)
          have y5 := cellsAt qg ((ln.length + k) * 7 + 5)
          have y6 := cellsAt qg ((ln.length + k) * 7 + 6)
          rw [← Array.getElem?_toList, hcur, List.getElem?_append_right (by omega), hA] at y0 y1 y2 y3 y4 y5 y6
          rw [show (ln.length + k) * 7 - (ln.length + k) * 7 = 0 by omega] at y0
          rw [show (ln.length + k) * 7 + 1 - (ln.length + k) * 7 = 1 by omega] at y1
          rw [show (ln.length + k) * 7 + 2 - (ln.length + k) * 7 = 2 by omega] at y2
          rw [show (ln.length + k) * 7 + 3 - (ln.length + k) * 7 = 3 by omega] at y3
          rw [show (ln.length + k) * 7 + 4 - (ln.length + k) * 7 = 4 by omega] at y4
          rw [show (ln.length + k) * 7 + 5 - (ln.length + k) * 7 = 5 by omega] at y5
          rw [show (ln.length + k) * 7 + 6 - (ln.length + k) * 7 = 6 by omega] at y6
          simp only [List.getElem?_cons_zero, List.getElem?_cons_succ] at y0 y1 y2 y3 y4 y5 y6
          have f0 := frozenAt qg ((ln.length + k) * 7)
          have f1 := frozenAt qg ((ln.length + k) * 7 + 1)
          have f2 := frozenAt qg ((ln.length + k) * 7 + 2)
          have f3 := frozenAt qg ((ln.length + k) * 7 + 3)
          have f4 := frozenAt qg ((ln.length + k) * 7 + 4)
          have f5 := frozenAt qg ((ln.length + k) * 7 + 5)
          have f6 := frozenAt qg ((ln.length + k) * 7 + 6)
          obtain ⟨cur', e1, e2⟩ := setAll_row gn 79 [.int .i64 0, .int .i64 0, .int .i64 0, .int .i64 (-77), .int .i64 0, .int .i64 0, .string ⟨#[]⟩] ((ln.length + k) * 7) wr curN (ncells (ln ++ List.replicate k padN)) [c0, c1, c2, c3, c4, c5, c6] rest qg (by rw [hcur]; simp) hA rfl
          have e3 : ncells (ln ++ List.replicate (k + 1) padN) = ncells (ln ++ List.replicate k padN) ++ [.int .i64 0, .int .i64 0, .int .i64 0, .int .i64 (-77), .int .i64 0, .int .i64 0, .string ⟨#[]⟩] := by
            rw [List.replicate_succ', ← List.append_assoc, ncells_append]
            rfl
          have E3 := Lib.hid e3
          have E2 := Lib.hid e2
          have i0 : ((ln.length : Int) + (k : Int)) < (ln.length : Int) + 8 := by omega
          have i1 : (0 : Int) ≤ (ln.length : Int) + (k : Int) := by omega
          have bs : Below w.heap.size w (setAll wr gn ((ln.length + k) * 7) [.int .i64 0, .int .i64 0, .int .i64 0, .int .i64 (-77), .int .i64 0, .int .i64 0, .string ⟨#[]⟩]) := setAll_below (by omega) _ _ _ _ hbw
          have s0 := (setAll_other gn [.int .i64 0, .int .i64 0, .int .i64 0, .int .i64 (-77), .int .i64 0, .int .i64 0, .string ⟨#[]⟩] ((ln.length + k) * 7) wr w.heap.size (by omega)).trans q0
          have s1 := (setAll_other gn [.int .i64 0, .int .i64 0, .int .i64 0, .int .i64 (-77), .int .i64 0, .int .i64 0, .string ⟨#[]⟩] ((ln.length + k) * 7) wr pr (by omega)).trans q1
          have s2 := (setAll_other gn [.int .i64 0, .int .i64 0, .int .i64 0, .int .i64 (-77), .int .i64 0, .int .i64 0, .string ⟨#[]⟩] ((ln.length + k) * 7) wr px (by omega)).trans q2
          have s3 := (setAll_other gn [.int .i64 0, .int .i64 0, .int .i64 0, .int .i64 (-77), .int .i64 0, .int .i64 0, .string ⟨#[]⟩] ((ln.length + k) * 7) wr gt (by omega)).trans qt
          clear hA e2 e3 hcur
          simp only [List.length_cons] at hrest
          go_wp2
          refine ⟨⟨k + 1, cur', rest, ?_, by omega, bs, s0, s1, s2, s3, e1, ?_, by omega⟩, by simp [intOf]; omega⟩
          · go_num
          · rw [E2.out, E3.out]
        · obtain rfl : k = 8 := by omega
          have hr0 : rest = [] := List.eq_nil_of_length_eq_zero (by omega)
          subst hr0
          rw [List.append_nil] at hcur
          have HCURN := Lib.hid hcur
          clear hcur hrest
          have z1 := cellsAt q0 1
          have z9 := cellsAt q0 9
          have v0 := cellsAt q2 0
          have u0 := cellsAt q1 0
          have v1 := cellsAt q2 1
          have u1 := cellsAt q1 1
          have v2 := cellsAt q2 2
          have u2 := cellsAt q1 2
          have v3 := cellsAt q2 3
          have u3 := cellsAt q1 3
          have v4 := cellsAt q2 4
          have u4 := cellsAt q1 4
          have v5 := cellsAt q2 5
          have u5 := cellsAt q1 5
          have v6 := cellsAt q2 6
          have u6 := cellsAt q1 6
          have v7 := cellsAt q2 7
          have u7 := cellsAt q1 7
          have v8 := cellsAt q2 8
          have u8 := cellsAt q1 8
          have v9 := cellsAt q2 9
          have u9 := cellsAt q1 9
          have v10 := cellsAt q2 10
          have u10 := cellsAt q1 10
          have v11 := cellsAt q2 11
          have u11 := cellsAt q1 11
          have v12 := cellsAt q2 12
          have u12 := cellsAt q1 12
          simp only [List.getElem?_toArray, List.getElem?_cons_zero, List.getElem?_cons_succ] at z1 z9 v0 u0 v1 u1 v2 u2 v3 u3 v4 u4 v5 u5 v6 u6 v7 u7 v8 u8 v9 u9 v10 u10 v11 u11 v12 u12
          have f1 := frozenAt q2 1
          have f9 := frozenAt q2 9
          have fr0 := frozenAt q1 0
          have fr1 := frozenAt q1 1
          have fr2 := frozenAt q1 2
          have fr3 := frozenAt q1 3
          have fr4 := frozenAt q1 4
          have fr5 := frozenAt q1 5
          have fr6 := frozenAt q1 6
          have fr7 := frozenAt q1 7
          have fr8 := frozenAt q1 8
          have fr9 := frozenAt q1 9
          have fr10 := frozenAt q1 10
          have fr11 := frozenAt q1 11
          have fr12 := frozenAt q1 12
          have bE : Below w.heap.size w (setAll ((wr.setCell ⟨px, 1, none⟩ (.slice (some ⟨gt, 0, none⟩) lt.length (lt.length + 8))).setCell ⟨px, 9, none⟩ (.slice (some ⟨gn, 0, none⟩) ln.length (ln.length + 8))) pr 0 [.int .i64 kind, .slice (some ⟨gt, 0, none⟩) lt.length (lt.length + 8), .int .i64 hs, .int .i64 hf, .int .i64 hu, .int .i64 rs, .int .i64 rv, .int .i64 rb, .int .i64 nm, .slice (some ⟨gn, 0, none⟩) ln.length (ln.length + 8), .int .i64 cs, .int .i64 cf, .int .i64 cc]) := setAll_below (by omega) _ _ _ _ ((hbw.setCell (p := ⟨px, 1, none⟩) (by show _ ≤ px; omega) _).setCell (p := ⟨px, 9, none⟩) (by show _ ≤ px; omega) _)
          have tE : (setAll ((wr.setCell ⟨px, 1, none⟩ (.slice (some ⟨gt, 0, none⟩) lt.length (lt.length + 8))).setCell ⟨px, 9, none⟩ (.slice (some ⟨gn, 0, none⟩) ln.length (ln.length + 8))) pr 0 [.int .i64 kind, .slice (some ⟨gt, 0, none⟩) lt.length (lt.length + 8), .int .i64 hs, .int .i64 hf, .int .i64 hu, .int .i64 rs, .int .i64 rv, .int .i64 rb, .int .i64 nm, .slice (some ⟨gn, 0, none⟩) ln.length (ln.length + 8), .int .i64 cs, .int .i64 cf, .int .i64 cc]).heap[gt]? = some (.cells cur 77 (0, 0)) := by
            rw [setAll_other pr _ _ _ gt (by omega), Below.heap_setCell _ _ _ _ (show gt ≠ px by omega), Below.heap_setCell _ _ _ _ (show gt ≠ px by omega)]
            exact qt
          have nE : (setAll ((wr.setCell ⟨px, 1, none⟩ (.slice (some ⟨gt, 0, none⟩) lt.length (lt.length + 8))).setCell ⟨px, 9, none⟩ (.slice (some ⟨gn, 0, none⟩) ln.length (ln.length + 8))) pr 0 [.int .i64 kind, .slice (some ⟨gt, 0, none⟩) lt.length (lt.length + 8), .int .i64 hs, .int .i64 hf, .int .i64 hu, .int .i64 rs, .int .i64 rv, .int .i64 rb, .int .i64 nm, .slice (some ⟨gn, 0, none⟩) ln.length (ln.length + 8), .int .i64 cs, .int .i64 cf, .int .i64 cc]).heap[gn]? = some (.cells curN 79 (0, 0)) := by
            rw [setAll_other pr _ _ _ gn (by omega), Below.heap_setCell _ _ _ _ (show gn ≠ px by omega), Below.heap_setCell _ _ _ _ (show gn ≠ px by omega)]
            exact qg
          clear q0 q1 q2 qt qg hbw
          go_wp2
          refine bodyPost_ret (v := .agg #[.int .i64 kind, .slice (some ⟨gt, 0, none⟩) lt.length (lt.length + 8), .int .i64 hs, .int .i64 hf, .int .i64 hu, .int .i64 rs, .int .i64 rv, .int .i64 rb, .int .i64 nm, .slice (some ⟨gn, 0, none⟩) ln.length (ln.length + 8), .int .i64 cs, .int .i64 cf, .int .i64 cc]) (by simp [results, Tryd.results14, go_sem, u0, u1, u2, u3, u4, u5, u6, u7, u8, u9, u10, u11, u12, Nat.ne_of_lt n2, Nat.ne_of_gt n2]) rfl ⟨bE, gt, gn, cur, curN, rfl, tE, HCUR.out, nE, HCURN.out⟩
end Go.Proofs.YteibjmlimcpaoaaDoor
