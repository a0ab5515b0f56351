/-
  What report.writer's methods one, two, four, bytes leave: the bytes that were written behind those that stood; nothing else that lay in memory turns.
-/
import Derived.Test.YteibjmlimcpaoaaDoorEnc
import Derived.Lib.AppendStr
import Derived.Lib.OwnKind
import Derived.OneCell
import Derived.Lib.OthersKept
set_option linter.unusedVariables false
set_option linter.unusedSimpArgs false
namespace Go.Proofs.YteibjmlimcpaoaaDoor
open Go.RowKit Go.Sort

/-- a writer that the call itself made, in the block b, with its bytes -/
def WrAt (B b : Nat) (l : List UInt8) (w : World) : Prop :=
  B ≤ b ∧ ∃ v, w.heap[b]? = some (.cells #[v] 96 (0, 0)) ∧ w.ownsRow B 5 1 v l.length (Lib.byteCells l)

theorem wr_ne {B b : Nat} {v : Value} {n : Nat} {xs : List Value} {u : Value} {w : World} (hb : w.heap[b]? = some (.cells #[u] 96 (0, 0))) (hown : w.ownsRow B 5 1 v n xs) : v.ownBlock ≠ some b := by
  intro e
  obtain ⟨c, fz, h⟩ := Lib.ownsRow_kind hown b e
  rw [hb] at h
  simp at h
theorem wr_put {B b : Nat} {v v' : Value} {l : List UInt8} {w : World} (hB : B ≤ b) (hb : w.heap[b]? = some (.cells #[v] 96 (0, 0))) (hown : w.ownsRow B 5 1 v' l.length (Lib.byteCells l)) : WrAt B b l (w.setCell ⟨b, 0, none⟩ v') := by
  have hne := wr_ne hb hown
  refine ⟨hB, v', ?_, ?_⟩
  · simp [World.setCell, Array.getElem?_modify, hb]
  · exact ownsRow_setCell_other hown hne _
theorem wr_lt {B b : Nat} {l : List UInt8} {w : World} (h : WrAt B b l w) : b < w.heap.size := by
  obtain ⟨_, v, hb, _⟩ := h
  rcases Nat.lt_or_ge b w.heap.size with h' | h'
  · exact h'
  · simp [Array.getElem?_eq_none h'] at hb
theorem byteCells_length (l : List UInt8) : (Lib.byteCells l).length = l.length := by simp [Lib.byteCells]
theorem byteCells_append (a b : List UInt8) : Lib.byteCells (a ++ b) = Lib.byteCells a ++ Lib.byteCells b := by simp [Lib.byteCells]
theorem newCells (w : World) (cs : List Value) (T : TypeId) : ∀ j u, cs[j]? = some u → (w.alloc (.cells cs.toArray T)).cell? ((⟨w.heap.size, 0, none⟩ : Addr).add j) = some u := by
  intro j u hj
  rw [addr_add, Nat.zero_add, World.cell?_alloc_new]
  simpa using hj
theorem infoByte : (Tryd.prog.info? 5).map (fun i => (i.zero, i.size, i.bytes)) = some (some (.int .u8 0), 1, 1) := by kernel_rfl

/-- behind an append to the writer's bytes and the store of the slice -/
theorem wr_done {B b : Nat} {l m : List UInt8} {v v' : Value} {w w1 w2 : World} (hB : B ≤ b) (hlt : b < w.heap.size) (hBw : B ≤ w.heap.size) (hb : w.heap[b]? = some (.cells #[v] 96 (0, 0))) (hown : w.ownsRow B 5 1 v l.length (Lib.byteCells l))
    (hb1 : Below w.heap.size w w1) (hk1 : Lib.OthersKept 5 (some b) w w1) (hown1 : w1.ownsRow B 5 1 v l.length (Lib.byteCells l)) (hown' : w2.ownsRow B 5 1 v' (l ++ m).length (Lib.byteCells (l ++ m))) (hgrow : w1.grownBy w2 v.ownBlock) :
    w2.heap[b]? = some (.cells #[v] 96 (0, 0)) ∧ WrAt B b (l ++ m) (w2.setCell ⟨b, 0, none⟩ v') ∧ Below B w (w2.setCell ⟨b, 0, none⟩ v') ∧ Lib.OthersKept 5 (some b) w (w2.setCell ⟨b, 0, none⟩ v') := by
  have hs1 := hb1.size
  have hbk : w2.heap[b]? = some (.cells #[v] 96 (0, 0)) := by
    rw [hgrow.block b (by omega) (fun e => wr_ne hb hown e.symm), hb1.block b hlt]
    exact hb
  refine ⟨hbk, wr_put hB hbk hown', ?_, (hk1.grown hgrow (Lib.ownsRow_kind hown1)).setCell ⟨b, 0, none⟩ rfl _⟩
  exact (((hb1.mono hBw).grown hgrow (by omega) (fun k hk => (hown.lt k hk).1))).setCell (p := ⟨b, 0, none⟩) hB _

set_option maxRecDepth 100000 in
set_option maxHeartbeats 1000000 in
theorem wone (B b n : Nat) (l : List UInt8) (w : World) (hn : n < 256) (h : WrAt B b l w) (hl : l.length ≤ 1048576) :
    Calls Tryd.prog 82 #[.pointer (some ⟨b, 0, none⟩), .int .i64 n] w fun e w' => e = .returned (.tuple #[]) ∧ WrAt B b (l ++ oneL n) w' ∧ Below B w w' ∧ Lib.OthersKept 5 (some b) w w' := by
  have hlt := wr_lt h
  obtain ⟨hB, v, hb, hown⟩ := h
  obtain ⟨i0, hi, hz0, hz1, hz2⟩ := info_parts infoByte
  have c0 : w.cell? ⟨b, 0, none⟩ = some v := by simp [World.cell?, hb]
  go_enter Tryd.func82, Tryd.ntmps82
  go_wp2_with (at_builtin; refine wpList_append_own _ rfl _ _ 62 rfl B 5 i0 (.int .u8 0) 1 1 Tryd.underlying62 hi hz0 hz1 hz2 rfl (by decide) _ _ _ rfl (hown.alloc _) ⟨w.heap.size, 0, none⟩ 1 1 [.int .u8 n] rfl rfl (newCells _ _ _) (fun x hx => by simp at hx; rcases hx with rfl; rfl) (by unfold maxLen; omega) (by omega) (by simp; omega) ?_; intro v' w2 hown' hgrow hnil; refine Hid.out ?_)
  have hown2 : w2.ownsRow B 5 1 v' (l ++ oneL n).length (Lib.byteCells (l ++ oneL n)) := by
    rw [byteCells_append, List.length_append]
    have e : Lib.byteCells (oneL n) = [.int .u8 n] := by simp [Lib.byteCells, oneL]; omega
    rw [e]
    exact hown'
  obtain ⟨hbk, hat, hbel, hkept⟩ := wr_done hB hlt (by omega) hb hown ((Below.refl _ _).alloc (Nat.le_refl _) _) ((Lib.OthersKept.refl _ _ _).alloc _) (hown.alloc _) hown2 hgrow
  have d0 : w2.cell? ⟨b, 0, none⟩ = some v := by simp [World.cell?, hbk]
  have f0 : w2.frozen? ⟨b, 0, none⟩ = false := by simp [World.frozen?, hbk]
  obtain ⟨ao, n', cap, rfl⟩ : ∃ ao n' cap, v' = .slice ao n' cap := by
    rcases hown'.2 with ⟨hv, _⟩ | ⟨g, cap, cur, hv, _⟩
    · exact ⟨_, _, _, hv⟩
    · exact ⟨_, _, _, hv⟩
  refine Lib.hid ?_
  go_wp2
  go_end0
  exact ⟨rfl, hat, hbel, hkept⟩

set_option maxRecDepth 100000 in
set_option maxHeartbeats 1000000 in
theorem wtwo (B b n : Nat) (l : List UInt8) (w : World) (hn : n < 4294967296) (h : WrAt B b l w) (hl : l.length ≤ 1048576) :
    Calls Tryd.prog 84 #[.pointer (some ⟨b, 0, none⟩), .int .i64 n] w fun e w' => e = .returned (.tuple #[]) ∧ WrAt B b (l ++ twoL n) w' ∧ Below B w w' ∧ Lib.OthersKept 5 (some b) w w' := by
  have hlt := wr_lt h
  obtain ⟨hB, v, hb, hown⟩ := h
  obtain ⟨i0, hi, hz0, hz1, hz2⟩ := info_parts infoByte
  have c0 : w.cell? ⟨b, 0, none⟩ = some v := by simp [World.cell?, hb]
  go_enter Tryd.func84, Tryd.ntmps84
  go_wp2_with (at_builtin; refine wpList_append_own _ rfl _ _ 62 rfl B 5 i0 (.int .u8 0) 1 1 Tryd.underlying62 hi hz0 hz1 hz2 rfl (by decide) _ _ _ rfl (hown.alloc _) ⟨w.heap.size, 0, none⟩ 2 2 [.int .u8 ((n : Int) / 256 % 256), .int .u8 ((n : Int) % 256)] rfl rfl (newCells _ _ _) (fun x hx => by simp at hx; rcases hx with rfl | rfl <;> rfl) (by unfold maxLen; omega) (by omega) (by simp; omega) ?_; intro v' w2 hown' hgrow hnil; refine Hid.out ?_)
  have hown2 : w2.ownsRow B 5 1 v' (l ++ twoL n).length (Lib.byteCells (l ++ twoL n)) := by
    rw [byteCells_append, List.length_append]
    have e : Lib.byteCells (twoL n) = [.int .u8 ((n : Int) / 256 % 256), .int .u8 ((n : Int) % 256)] := by simp [Lib.byteCells, twoL]
    rw [e]
    exact hown'
  obtain ⟨hbk, hat, hbel, hkept⟩ := wr_done hB hlt (by omega) hb hown ((Below.refl _ _).alloc (Nat.le_refl _) _) ((Lib.OthersKept.refl _ _ _).alloc _) (hown.alloc _) hown2 hgrow
  have d0 : w2.cell? ⟨b, 0, none⟩ = some v := by simp [World.cell?, hbk]
  have f0 : w2.frozen? ⟨b, 0, none⟩ = false := by simp [World.frozen?, hbk]
  obtain ⟨ao, n', cap, rfl⟩ : ∃ ao n' cap, v' = .slice ao n' cap := by
    rcases hown'.2 with ⟨hv, _⟩ | ⟨g, cap, cur, hv, _⟩
    · exact ⟨_, _, _, hv⟩
    · exact ⟨_, _, _, hv⟩
  refine Lib.hid ?_
  go_wp2
  go_end0
  exact ⟨rfl, hat, hbel, hkept⟩

set_option maxRecDepth 100000 in
set_option maxHeartbeats 1000000 in
theorem wbytes (B b : Nat) (s : ByteArray) (l : List UInt8) (w : World) (hs : s.size ≤ 1048576) (h : WrAt B b l w) (hl : l.length ≤ 1048576) :
    Calls Tryd.prog 116 #[.pointer (some ⟨b, 0, none⟩), .string s] w fun e w' => e = .returned (.tuple #[]) ∧ WrAt B b (l ++ s.data.toList) w' ∧ Below B w w' ∧ Lib.OthersKept 5 (some b) w w' := by
  have hlt := wr_lt h
  obtain ⟨hB, v, hb, hown⟩ := h
  obtain ⟨i0, hi, hz0, hz1, hz2⟩ := info_parts infoByte
  have c0 : w.cell? ⟨b, 0, none⟩ = some v := by simp [World.cell?, hb]
  go_enter Tryd.func116, Tryd.ntmps116
  go_wp2_with (at_builtin; refine Lib.wpList_append_own_string _ rfl _ _ 62 9 rfl B 5 i0 Tryd.underlying62 Tryd.underlying9 hi hz0 hz1 hz2 _ _ _ rfl hown s rfl (by unfold maxLen; omega) (by omega) (by omega) ?_; intro v' w2 hown' hgrow hnil; refine Hid.out ?_)
  have hown2 : w2.ownsRow B 5 1 v' (l ++ s.data.toList).length (Lib.byteCells (l ++ s.data.toList)) := by
    rw [byteCells_append, List.length_append, Array.length_toList]
    exact hown'
  obtain ⟨hbk, hat, hbel, hkept⟩ := wr_done hB hlt (by omega) hb hown (Below.refl _ _) (Lib.OthersKept.refl _ _ _) hown hown2 hgrow
  have d0 : w2.cell? ⟨b, 0, none⟩ = some v := by simp [World.cell?, hbk]
  have f0 : w2.frozen? ⟨b, 0, none⟩ = false := by simp [World.frozen?, hbk]
  obtain ⟨ao, n', cap, rfl⟩ : ∃ ao n' cap, v' = .slice ao n' cap := by
    rcases hown'.2 with ⟨hv, _⟩ | ⟨g, cap, cur, hv, _⟩
    · exact ⟨_, _, _, hv⟩
    · exact ⟨_, _, _, hv⟩
  refine Lib.hid ?_
  go_wp2
  go_end0
  exact ⟨rfl, hat, hbel, hkept⟩

set_option maxRecDepth 100000 in
set_option maxHeartbeats 1000000 in
theorem wfour (B b n : Nat) (l : List UInt8) (w : World) (hn : n < 4294967296) (h : WrAt B b l w) (hl : l.length ≤ 1040000) :
    Calls Tryd.prog 86 #[.pointer (some ⟨b, 0, none⟩), .int .i64 n] w fun e w' => e = .returned (.tuple #[]) ∧ WrAt B b (l ++ fourL n) w' ∧ Below B w w' ∧ Lib.OthersKept 5 (some b) w w' := by
  have e0 : fourL n = twoL (n / 65536) ++ twoL n := rfl
  rw [e0, ← List.append_assoc]
  have A := Lib.hid (wtwo B b (n / 65536) l w (by omega) h (by omega))
  have hl2 : (l ++ twoL (n / 65536)).length = l.length + 2 := by simp [twoL]
  have C := Lib.hid (fun w1 (h1 : WrAt B b (l ++ twoL (n / 65536)) w1) => wtwo B b n (l ++ twoL (n / 65536)) w1 hn h1 (by omega))
  rw [show ((n / 65536 : Nat) : Int) = (n : Int) / 65536 by omega] at A
  generalize l ++ twoL (n / 65536) = l1 at *
  generalize l1 ++ twoL n = l2 at *
  go_enter Tryd.func86, Tryd.ntmps86
  go_wp2_with (go_at_call 84; refine A.out.mono ?_; rintro e w1 ⟨rfl, h1, hb1, hk1⟩; refine Hid.out ?_)
  refine Lib.hid ?_
  go_wp2_with (go_at_call 84; refine (C.out _ h1).mono ?_; rintro e w2 ⟨rfl, h2, hb2, hk2⟩)
  go_end0
  exact ⟨rfl, h2, hb1.trans hb2, hk1.trans hk2⟩
end Go.Proofs.YteibjmlimcpaoaaDoor
