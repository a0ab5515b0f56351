/-
  What the windows of package window answer, and what they leave of the meter: as the plain program says; nothing else that lay in memory turns.
  What windows on tables answer when numbers are read through them: as the plain program says; nothing but the meter turns.
  What windows answer that count nothing: pieces of themselves, whether something lies in them, their size, their places, whether they share a byte.
  What a window's Bytes answers: a copy of what it shows, as far as steps last; nothing but the meter turns.
-/
import Derived.Test.YteibjmlimcpaoaaGreatDoorPa
import Derived.Test.YteibjmlimcpaoaaGreatDoorProg
import Derived.WalkKit
import Derived.BigCall
import Derived.Deep.QuietTactic
import Derived.BigQuiet
import Derived.Lib.Hide
import Derived.Lib.QuietBelow
import Derived.Deep.RegionHeld3
import Derived.Deep.RegionWith
import Derived.Laws.MakeOwn
import Derived.Lib.AppendStr
import Derived.Lib.UnsafeStr
set_option linter.unusedVariables false
set_option linter.unusedSimpArgs false
namespace Go.Proofs.YteibjmlimcpaoaaGreatDoor.W
open Go.RowKit Go.Sort

/-- a file in the block p: its meter, its bytes -/
def FlAt (p : Nat) (m : Mt) (D : List UInt8) (w : World) : Prop := w.heap[p]? = some (.cells #[.int .i64 m.left, .bool m.spent, .int .i64 m.steps, .int .i64 m.read, .string ⟨D.toArray⟩] 113 (0, 0))

theorem grown_trans {w w1 w2 : World} {r : Option Nat} (h : w.grownBy w1 r) (k : w1.grownBy w2 r) : w.grownBy w2 r :=
  ⟨k.os.trans h.os, k.tape.trans h.tape, k.output.trans h.output, Nat.le_trans h.size k.size, fun i hi hn => (k.block i (Nat.lt_of_lt_of_le hi h.size) hn).trans (h.block i hi hn)⟩
theorem grown_below {w w1 : World} (r : Option Nat) (h : Below w.heap.size w w1) : w.grownBy w1 r := ⟨h.os, h.tape, h.output, h.size, fun i hi _ => h.block i hi⟩
theorem grown_set {w w1 : World} {p : Nat} (h : w.grownBy w1 (some p)) (i : Nat) (v : Value) : w.grownBy (w1.setCell ⟨p, i, none⟩ v) (some p) :=
  ⟨h.os, h.tape, h.output, by simpa [World.setCell] using h.size, fun k hk hn => by
    rw [Below.heap_setCell _ _ _ _ (fun e => hn (by rw [e]))]
    exact h.block k hk hn⟩
theorem setCell_row {w : World} {p i : Nat} {cs : Array Value} {T : TypeId} (h : w.heap[p]? = some (.cells cs T (0, 0))) (v : Value) : (w.setCell ⟨p, i, none⟩ v).heap[p]? = some (.cells (cs.setIfInBounds i v) T (0, 0)) := by
  rw [setCell_eq_setRow w p i cs T (0, 0) v h]
  exact setRow_heap w p cs _ T _ h
theorem at_lt {w : World} {p : Nat} {o : Obj} (h : w.heap[p]? = some o) : p < w.heap.size := (Array.getElem?_eq_some_iff.1 h).1
theorem at_alloc {w : World} {p : Nat} {o q : Obj} (h : w.heap[p]? = some o) : (w.alloc q).heap[p]? = some o := by
  have := at_lt h
  show (w.heap.push q)[p]? = some o
  rw [Array.getElem?_push_lt this]
  exact (Array.getElem?_eq_getElem this).symm.trans h
theorem grown_at {w w1 : World} {p k : Nat} {o : Obj} (g : w.grownBy w1 (some p)) (h : w.heap[k]? = some o) (hne : k ≠ p) : w1.heap[k]? = some o := by
  rw [g.block k (at_lt h) (fun e => hne (Option.some.inj e))]
  exact h
theorem new_at (w : World) (o : Obj) : (w.alloc o).heap[w.heap.size]? = some o := by
  show (w.heap.push o)[w.heap.size]? = some o
  simp

theorem cellsAt {k : Nat} {w : World} {cs : Array Value} {T : TypeId} {fz : Nat × Nat} (h : w.heap[k]? = some (.cells cs T fz)) (i : Nat) : w.cell? ⟨k, i, none⟩ = cs[i]? := by
  simp [World.cell?, h]
theorem frozenAt {k : Nat} {w : World} {cs : Array Value} {T : TypeId} (h : w.heap[k]? = some (.cells cs T (0, 0))) (i : Nat) : w.frozen? ⟨k, i, none⟩ = false := by
  simp [World.frozen?, h]
theorem index_at (s : ByteArray) (i : Int) (j : Nat) (h : i = j) (hj : j < s.size) (W : World) : (Instr.index 9 (.string s) (.int .i64 i)).run Tryz.prog W = .ok (.int .u8 (s[j].toNat : Int)) W := by
  subst h
  rw [run_index_string W 9 s .i64 _ Tryz.underlying9, dif_pos ⟨by omega, by omega⟩]
  rfl
theorem wrapL (x : Int) (h0 : 0 ≤ x) (h1 : x < 9223372036854775808) : IntKind.i64.wrap x = x := by
  rw [IntKind.wrap_i64]
  omega

set_option maxRecDepth 100000 in
set_option maxHeartbeats 1000000 in
theorem stepW (p : Nat) (m : Mt) (D : List UInt8) (w : World) (hl : m.left ≤ 9223372036854775807) (hs : m.steps + m.left ≤ 9223372036854775807) (h : FlAt p m D w) :
    Calls Tryz.prog 159 #[.pointer (some ⟨p, 0, none⟩)] w fun e w' => e = .returned (.bool (decide (m.left ≠ 0))) ∧ FlAt p m.step D w' ∧ w.grownBy w' (some p) := by
  obtain ⟨l, sp, st, rd⟩ := m
  unfold FlAt at h ⊢
  simp only at h hl hs ⊢
  have x0 := cellsAt h 0
  have x1 := cellsAt h 1
  have x2 := cellsAt h 2
  have f0 := frozenAt h 0
  have f1 := frozenAt h 1
  have f2 := frozenAt h 2
  simp only [List.getElem?_toArray, List.getElem?_cons_zero, List.getElem?_cons_succ] at x0 x1 x2
  by_cases c : l = 0
  · subst c
    have hr := setCell_row (i := 1) h (.bool true)
    have x0' : w.cell? ⟨p, 0, none⟩ = some (.int .i64 0) := x0
    clear h x0
    go_enter Tryz.func159, Tryz.ntmps159
    go_wp2
    go_ret
    exact ⟨rfl, hr, grown_set (World.grownBy.refl _ _) _ _⟩
  · have hr0 := setCell_row (i := 0) h (.int .i64 ((l : Int) - 1))
    have hr := setCell_row (i := 2) hr0 (.int .i64 ((st : Int) + 1))
    have e1 : ((l - 1 : Nat) : Int) = (l : Int) - 1 := by omega
    have c' : ¬ ((l : Int) = 0) := by omega
    clear h hr0
    go_enter Tryz.func159, Tryz.ntmps159
    go_wp2
    go_ret
    refine ⟨by simp [c], ?_, ?_⟩
    · have e2 : (Mt.mk l sp st rd).step = ⟨l - 1, sp, st + 1, rd⟩ := by unfold Mt.step; rw [if_neg c]
      rw [e2]
      simp only
      rw [e1, show ((st + 1 : Nat) : Int) = (st : Int) + 1 by omega]
      exact hr
    · exact grown_set (grown_set (World.grownBy.refl _ _) _ _) _ _

set_option maxRecDepth 100000 in
set_option maxHeartbeats 1000000 in
theorem readW (p : Nat) (m : Mt) (D : List UInt8) (w : World) (hl : m.left ≤ 9223372036854775807) (hs : m.steps + m.left ≤ 9223372036854775807) (hr : m.read + m.left ≤ 9223372036854775807) (h : FlAt p m D w) :
    Calls Tryz.prog 158 #[.pointer (some ⟨p, 0, none⟩)] w fun e w' => e = .returned (.bool (decide (m.left ≠ 0))) ∧ FlAt p m.reads D w' ∧ w.grownBy w' (some p) := by
  have S := Lib.hid (stepW p m D w hl hs h)
  obtain ⟨l, sp, st, rd⟩ := m
  clear h
  simp only at hl hs hr
  by_cases c : l = 0
  · subst c
    simp only [ne_eq, not_true_eq_false, decide_false] at S ⊢
    go_enter Tryz.func158, Tryz.ntmps158
    go_wp2_with (go_at_call 159; refine S.out.mono ?_; rintro e w1 ⟨rfl, h1, g1⟩)
    go_ret
    exact ⟨rfl, h1, g1⟩
  · have e0 : decide (l ≠ 0) = true := by simp [c]
    have e1 : (Mt.mk l sp st rd).step = ⟨l - 1, sp, st + 1, rd⟩ := by unfold Mt.step; rw [if_neg c]
    have e2 : (Mt.mk l sp st rd).reads = ⟨l - 1, sp, st + 1, rd + 1⟩ := by unfold Mt.reads; rw [if_neg c]
    simp only [e0, e1] at S ⊢
    rw [e2]
    clear e0 e1 e2
    go_enter Tryz.func158, Tryz.ntmps158
    go_wp2_with (go_at_call 159; refine S.out.mono ?_; rintro e w1 ⟨rfl, h1, g1⟩; refine Hid.out ?_)
    unfold FlAt at h1
    simp only at h1
    have x3 := cellsAt h1 3
    have f3 := frozenAt h1 3
    simp only [List.getElem?_toArray, List.getElem?_cons_zero, List.getElem?_cons_succ] at x3
    have hq := setCell_row (i := 3) h1 (.int .i64 ((rd : Int) + 1))
    clear h1
    refine Lib.hid ?_
    go_wp2
    go_ret
    refine ⟨rfl, ?_, grown_set g1 _ _⟩
    unfold FlAt
    simp only
    rw [show ((rd + 1 : Nat) : Int) = (rd : Int) + 1 by omega]
    exact hq

theorem getD_ba (D : List UInt8) (i : Nat) (h : i < (ByteArray.mk D.toArray).size) : (ByteArray.mk D.toArray)[i] = D.getD i 0 := by
  have hz : (ByteArray.mk D.toArray).size = D.length := by show Array.size _ = _; simp
  have h' : i < D.length := by omega
  show D.toArray[i] = _
  simp [List.getD_eq_getElem?_getD, h']

set_option maxRecDepth 100000 in
set_option maxHeartbeats 1000000 in
theorem fbyteW (p i : Nat) (m : Mt) (D : List UInt8) (w : World) (hl : m.left ≤ 9223372036854775807) (hs : m.steps + m.left ≤ 9223372036854775807) (hr : m.read + m.left ≤ 9223372036854775807) (hi : i < D.length) (h : FlAt p m D w) :
    Calls Tryz.prog 145 #[.pointer (some ⟨p, 0, none⟩), .int .i64 i] w fun e w' => e = .returned (.int .i64 ((if m.left = 0 then 0 else D.getD i 0).toNat : Nat)) ∧ FlAt p m.reads D w' ∧ w.grownBy w' (some p) := by
  have S := Lib.hid (readW p m D w hl hs hr h)
  have x4 := cellsAt h 4
  simp only [List.getElem?_toArray, List.getElem?_cons_zero, List.getElem?_cons_succ] at x4
  have hz : (ByteArray.mk D.toArray).size = D.length := by show Array.size _ = _; simp
  obtain ⟨B, hB⟩ : ∃ B : ByteArray, ByteArray.mk D.toArray = B := ⟨_, rfl⟩
  have hj : i < B.size := by rw [← hB, hz]; exact hi
  have hD : D.getD i 0 = B[i] := by subst hB; exact (getD_ba D i (by rw [hz]; exact hi)).symm
  have c1 : ¬ ((i : Int) < 0) := by omega
  have c2 : ¬ ((i : Int) ≥ (B.size : Int)) := by omega
  have c3 : ¬ ((B.size : Int) ≤ (i : Int)) := by omega
  by_cases c : m.left = 0
  · rw [if_pos c]
    rw [show decide (m.left ≠ 0) = false by simp [c]] at S
    rw [hB] at x4
    clear hB hD h
    go_enter Tryz.func145, Tryz.ntmps145
    go_wp2_with (go_at_call 158; refine S.out.mono ?_; rintro e w1 ⟨rfl, h1, g1⟩)
    go_ret
    exact ⟨rfl, h1, g1⟩
  · rw [if_neg c, hD]
    rw [show decide (m.left ≠ 0) = true by simp [c]] at S
    rw [hB] at x4
    have ix := index_at B (i : Int) i rfl hj
    have bl := B[i].toNat_lt
    clear hD h
    go_enter Tryz.func145, Tryz.ntmps145
    go_wp2_with (go_at_call 158; refine S.out.mono ?_; rintro e w1 ⟨rfl, h1, g1⟩; refine Hid.out ?_)
    have y4 := cellsAt h1 4
    simp only [List.getElem?_toArray, List.getElem?_cons_zero, List.getElem?_cons_succ] at y4
    rw [hB] at y4
    refine Lib.hid ?_
    go_wp2
    go_ret
    exact ⟨rfl, h1, g1⟩
end Go.Proofs.YteibjmlimcpaoaaGreatDoor.W

set_option linter.unusedVariables false
set_option linter.unusedSimpArgs false
namespace Go.Proofs.YteibjmlimcpaoaaGreatDoor.W
open Go.RowKit Go.Sort

/-- no number of a meter can be too great -/
structure MOk (m : Mt) : Prop where
  l : m.left ≤ 9223372036854775807
  s : m.steps + m.left ≤ 9223372036854775807
  r : m.read + m.left ≤ 9223372036854775807
theorem MOk.step {m : Mt} (h : MOk m) : MOk m.step := by
  obtain ⟨l, s, r⟩ := h
  unfold Mt.step
  split
  · exact ⟨l, s, r⟩
  · exact ⟨by simp only; omega, by simp only; omega, by simp only; omega⟩
theorem MOk.reads {m : Mt} (h : MOk m) : MOk m.reads := by
  obtain ⟨l, s, r⟩ := h
  unfold Mt.reads
  split
  · exact ⟨l, s, r⟩
  · exact ⟨by simp only; omega, by simp only; omega, by simp only; omega⟩
theorem MOk.run {α : Type} (D : List UInt8) : ∀ (p : Pr α) {m : Mt}, MOk m → MOk (p.run D m).2
  | .ret a, m, h => h
  | .tick k, m, h => MOk.run D k h.step
  | .get i k, m, h => MOk.run D (k _) h.reads
  | .ask k, m, h => MOk.run D (k _) h

/-- a window as a value; it lies in the file -/
def wv (p : Nat) (t : Wn) : Value := .agg #[.pointer (some ⟨p, 0, none⟩), .int .i64 t.b, .int .i64 t.s]
def InF (t : Wn) (D : List UInt8) : Prop := t.b + t.s ≤ D.length ∧ D.length ≤ 2000

theorem byte_lt (D : List UInt8) (t : Wn) (i : Nat) (m : Mt) : ((t.byte i).run D m).1 < 256 := by
  unfold Wn.byte
  split
  · simp only [Pr.run]
    exact UInt8.toNat_lt _
  · simp [Pr.run]
theorem two_run (D : List UInt8) (t : Wn) (i : Nat) (m : Mt) : (t.two i).run D m = (256 * ((t.byte i).run D m).1 + ((t.byte (i + 1)).run D ((t.byte i).run D m).2).1, ((t.byte (i + 1)).run D ((t.byte i).run D m).2).2) := by
  unfold Wn.two
  rw [Pr.run_bind, Pr.run_bind]
  rfl
theorem two_lt (D : List UInt8) (t : Wn) (i : Nat) (m : Mt) : ((t.two i).run D m).1 < 65536 := by
  rw [two_run]
  have := byte_lt D t i m
  have := byte_lt D t (i + 1) ((t.byte i).run D m).2
  simp only
  omega
theorem four_run (D : List UInt8) (t : Wn) (i : Nat) (m : Mt) : (t.four i).run D m = (65536 * ((t.two i).run D m).1 + ((t.two (i + 2)).run D ((t.two i).run D m).2).1, ((t.two (i + 2)).run D ((t.two i).run D m).2).2) := by
  unfold Wn.four
  rw [Pr.run_bind, Pr.run_bind]
  rfl
theorem four_lt (D : List UInt8) (t : Wn) (i : Nat) (m : Mt) : ((t.four i).run D m).1 < 4294967296 := by
  rw [four_run]
  have := two_lt D t i m
  have := two_lt D t (i + 2) ((t.two i).run D m).2
  simp only
  omega

theorem fl_alloc {p : Nat} {m : Mt} {D : List UInt8} {w : World} (h : FlAt p m D w) (o : Obj) : FlAt p m D (w.alloc o) := at_alloc h
theorem fl_lt {p : Nat} {m : Mt} {D : List UInt8} {w : World} (h : FlAt p m D w) : p < w.heap.size := at_lt h
theorem grown_alloc {w w1 : World} {o : Obj} {r : Option Nat} (h : (w.alloc o).grownBy w1 r) : w.grownBy w1 r := grown_trans (World.grownBy_alloc w o r) h

set_option maxRecDepth 100000 in
set_option maxHeartbeats 1000000 in
theorem byteW (p i : Nat) (t : Wn) (m : Mt) (D : List UInt8) (w : World) (hi : i < 4611686018427387904) (ht : InF t D) (hm : MOk m) (h : FlAt p m D w) :
    Calls Tryz.prog 126 #[wv p t, .int .i64 i] w fun e w' => e = .returned (.int .i64 (((t.byte i).run D m).1 : Nat)) ∧ FlAt p ((t.byte i).run D m).2 D w' ∧ w.grownBy w' (some p) := by
  obtain ⟨b, s⟩ := t
  obtain ⟨h1, h2⟩ := ht
  simp only at h1
  have hlt := fl_lt h
  unfold wv
  simp only
  have c1 : ¬ ((i : Int) < 0) := by omega
  by_cases c : i < s
  · have S := Lib.hid (fun w h => fbyteW p (b + i) m D w hm.l hm.s hm.r (by omega) h)
    have e : ((Wn.mk b s).byte i).run D m = ((if m.left = 0 then 0 else D.getD (b + i) 0).toNat, m.reads) := by
      unfold Wn.byte
      rw [if_pos c]
      rfl
    rw [e]
    simp only
    have h0 := fl_alloc h (.cells #[.pointer (some ⟨p, 0, none⟩), .int .i64 (b : Int), .int .i64 (s : Int)] 126)
    have r0 := new_at w (.cells #[.pointer (some ⟨p, 0, none⟩), .int .i64 (b : Int), .int .i64 (s : Int)] 126)
    have y0 := cellsAt r0 0
    have y1 := cellsAt r0 1
    have y2 := cellsAt r0 2
    simp only [List.getElem?_toArray, List.getElem?_cons_zero, List.getElem?_cons_succ] at y0 y1 y2
    have c2 : ¬ ((i : Int) ≥ (s : Int)) := by omega
    have c3 : ¬ ((s : Int) ≤ (i : Int)) := by omega
    have e2 : ((b + i : Nat) : Int) = (b : Int) + i := by omega
    rw [e2] at S
    generalize (if m.left = 0 then 0 else D.getD (b + i) 0).toNat = z at S ⊢
    clear h r0 e
    go_enter Tryz.func126, Tryz.ntmps126
    go_wp2_with (go_at_call 145; refine (S.out _ h0).mono ?_; rintro e w1 ⟨rfl, k1, g1⟩)
    go_ret
    exact ⟨rfl, k1, grown_alloc g1⟩
  · have e : ((Wn.mk b s).byte i).run D m = (0, m) := by
      unfold Wn.byte
      rw [if_neg c]
      rfl
    rw [e]
    simp only
    have r0 := new_at w (.cells #[.pointer (some ⟨p, 0, none⟩), .int .i64 (b : Int), .int .i64 (s : Int)] 126)
    have y2 := cellsAt r0 2
    simp only [List.getElem?_toArray, List.getElem?_cons_zero, List.getElem?_cons_succ] at y2
    have h0 := fl_alloc h (.cells #[.pointer (some ⟨p, 0, none⟩), .int .i64 (b : Int), .int .i64 (s : Int)] 126)
    have c2 : ((i : Int) ≥ (s : Int)) := by omega
    have c3 : ((s : Int) ≤ (i : Int)) := by omega
    clear h r0 e
    go_enter Tryz.func126, Tryz.ntmps126
    go_wp2
    go_ret
    exact ⟨rfl, h0, World.grownBy_alloc _ _ _⟩

theorem or8 (x y : Nat) (h1 : x < 256) (h2 : y < 256) : bits .or .i64 ((x : Int) * 256) (y : Int) = ((256 * x + y : Nat) : Int) := by
  rw [bits_join .i64 63 (by decide) (fun n h0 h1 => wrapL n h0 (by omega)) 8 ((x : Int) * 256) (y : Int) (by omega) (by omega) (by omega) (by omega) (by omega) (by omega)]
  omega
theorem or16 (x y : Nat) (h1 : x < 65536) (h2 : y < 65536) : bits .or .i64 ((x : Int) * 65536) (y : Int) = ((65536 * x + y : Nat) : Int) := by
  rw [bits_join .i64 63 (by decide) (fun n h0 h1 => wrapL n h0 (by omega)) 16 ((x : Int) * 65536) (y : Int) (by omega) (by omega) (by omega) (by omega) (by omega) (by omega)]
  omega

theorem grown_drew {w w1 : World} {r : Option Nat} (h : w.drew.grownBy w1 r) : w.grownBy w1 r := ⟨h.os, h.tape, h.output, h.size, h.block⟩
theorem fl_drew {p : Nat} {m : Mt} {D : List UInt8} {w : World} (h : FlAt p m D w) : FlAt p m D w.drew := h
theorem box_kept {w w1 : World} {p k b s : Nat} {q : Value} (g : w.grownBy w1 (some p)) (h : w.heap[k]? = some (.cells #[q, .int .i64 (b : Int), .int .i64 (s : Int)] 126 (0, 0))) (hne : k ≠ p) :
    w1.cell? ⟨k, 0, none⟩ = some q ∧ w1.cell? ⟨k, 1, none⟩ = some (.int .i64 (b : Int)) ∧ w1.cell? ⟨k, 2, none⟩ = some (.int .i64 (s : Int)) := by
  have r := grown_at g h hne
  exact ⟨cellsAt r 0, cellsAt r 1, cellsAt r 2⟩

set_option maxRecDepth 100000 in
set_option maxHeartbeats 1000000 in
theorem twoW (p i : Nat) (t : Wn) (m : Mt) (D : List UInt8) (w : World) (hi : i < 4611686018427387900) (ht : InF t D) (hm : MOk m) (h : FlAt p m D w) :
    Calls Tryz.prog 95 #[wv p t, .int .i64 i] w fun e w' => e = .returned (.int .i64 (((t.two i).run D m).1 : Nat)) ∧ FlAt p ((t.two i).run D m).2 D w' ∧ w.grownBy w' (some p) := by
  rw [two_run]
  have hlt := fl_lt h
  have A := Lib.hid (fun w h => byteW p i t m D w (by omega) ht hm h)
  have B := Lib.hid (fun w h => byteW p (i + 1) t _ D w (by omega) ht (hm.run D (t.byte i)) h)
  have a1 := byte_lt D t i m
  have a2 := byte_lt D t (i + 1) ((t.byte i).run D m).2
  simp only
  generalize ((t.byte (i + 1)).run D ((t.byte i).run D m).2).1 = y at *
  generalize ((t.byte (i + 1)).run D ((t.byte i).run D m).2).2 = m2 at *
  generalize ((t.byte i).run D m).1 = x at *
  generalize ((t.byte i).run D m).2 = m1 at *
  have ho := or8 x y a1 a2
  have e1 : ((i + 1 : Nat) : Int) = (i : Int) + 1 := by omega
  rw [e1] at B
  have h0 := fl_alloc h (.cells #[.pointer (some ⟨p, 0, none⟩), .int .i64 (t.b : Int), .int .i64 (t.s : Int)] 126)
  have r0 := new_at w (.cells #[.pointer (some ⟨p, 0, none⟩), .int .i64 (t.b : Int), .int .i64 (t.s : Int)] 126)
  have y0 := cellsAt r0 0
  have y1 := cellsAt r0 1
  have y2 := cellsAt r0 2
  simp only [List.getElem?_toArray, List.getElem?_cons_zero, List.getElem?_cons_succ] at y0 y1 y2
  have hne : w.heap.size ≠ p := by omega
  have wr0 := wrapL ((i : Int) + 1) (by omega) (by omega)
  obtain ⟨J, hJ⟩ : ∃ J : Int, (i : Int) + 1 = J := ⟨_, rfl⟩
  rw [hJ] at B
  have wr1 := wr0.trans hJ
  clear hJ wr0
  have wr2 := wrapL ((x : Int) * 256) (by omega) (by omega)
  unfold wv at A B ⊢
  clear h
  go_enter Tryz.func95, Tryz.ntmps95
  go_wp2
  go_region_with (first
      | (go_at_call_of 126 (Value.int IntKind.i64 J); refine (B.out _ ?_).mono ?_; exact k1; rintro e w2 ⟨rfl, k2, g2⟩; obtain ⟨q20, q21, q22⟩ := box_kept (grown_trans g1 g2) r0 hne)
      | (go_at_call_of 126 (Value.int IntKind.i64 (i : Int)); refine (A.out _ ?_).mono ?_; exact h0; rintro e w1 ⟨rfl, k1, g1⟩; obtain ⟨q10, q11, q12⟩ := box_kept g1 r0 hne))
  all_goals go_wp2
  all_goals (
    go_ret
    refine ⟨?_, k2, grown_alloc (grown_drew (grown_trans g1 g2))⟩
    first | rfl | rw [ho])

set_option maxRecDepth 100000 in
set_option maxHeartbeats 1000000 in
theorem fourW (p i : Nat) (t : Wn) (m : Mt) (D : List UInt8) (w : World) (hi : i < 4611686018427387800) (ht : InF t D) (hm : MOk m) (h : FlAt p m D w) :
    Calls Tryz.prog 128 #[wv p t, .int .i64 i] w fun e w' => e = .returned (.int .i64 (((t.four i).run D m).1 : Nat)) ∧ FlAt p ((t.four i).run D m).2 D w' ∧ w.grownBy w' (some p) := by
  rw [four_run]
  have hlt := fl_lt h
  have A := Lib.hid (fun w h => twoW p i t m D w (by omega) ht hm h)
  have B := Lib.hid (fun w h => twoW p (i + 2) t _ D w (by omega) ht (hm.run D (t.two i)) h)
  have a1 := two_lt D t i m
  have a2 := two_lt D t (i + 2) ((t.two i).run D m).2
  simp only
  generalize ((t.two (i + 2)).run D ((t.two i).run D m).2).1 = y at *
  generalize ((t.two (i + 2)).run D ((t.two i).run D m).2).2 = m2 at *
  generalize ((t.two i).run D m).1 = x at *
  generalize ((t.two i).run D m).2 = m1 at *
  have ho := or16 x y a1 a2
  have e1 : ((i + 2 : Nat) : Int) = (i : Int) + 2 := by omega
  rw [e1] at B
  have h0 := fl_alloc h (.cells #[.pointer (some ⟨p, 0, none⟩), .int .i64 (t.b : Int), .int .i64 (t.s : Int)] 126)
  have r0 := new_at w (.cells #[.pointer (some ⟨p, 0, none⟩), .int .i64 (t.b : Int), .int .i64 (t.s : Int)] 126)
  have y0 := cellsAt r0 0
  have y1 := cellsAt r0 1
  have y2 := cellsAt r0 2
  simp only [List.getElem?_toArray, List.getElem?_cons_zero, List.getElem?_cons_succ] at y0 y1 y2
  have hne : w.heap.size ≠ p := by omega
  have wr0 := wrapL ((i : Int) + 2) (by omega) (by omega)
  obtain ⟨J, hJ⟩ : ∃ J : Int, (i : Int) + 2 = J := ⟨_, rfl⟩
  rw [hJ] at B
  have wr1 := wr0.trans hJ
  clear hJ wr0
  have wr2 := wrapL ((x : Int) * 65536) (by omega) (by omega)
  unfold wv at A B ⊢
  clear h
  go_enter Tryz.func128, Tryz.ntmps128
  go_wp2
  go_region_with (first
      | (go_at_call_of 95 (Value.int IntKind.i64 J); refine (B.out _ ?_).mono ?_; exact k1; rintro e w2 ⟨rfl, k2, g2⟩; obtain ⟨q20, q21, q22⟩ := box_kept (grown_trans g1 g2) r0 hne)
      | (go_at_call_of 95 (Value.int IntKind.i64 (i : Int)); refine (A.out _ ?_).mono ?_; exact h0; rintro e w1 ⟨rfl, k1, g1⟩; obtain ⟨q10, q11, q12⟩ := box_kept g1 r0 hne))
  all_goals go_wp2
  all_goals (
    go_ret
    refine ⟨?_, k2, grown_alloc (grown_drew (grown_trans g1 g2))⟩
    first | rfl | rw [ho])
end Go.Proofs.YteibjmlimcpaoaaGreatDoor.W

set_option linter.unusedVariables false
set_option linter.unusedSimpArgs false
namespace Go.Proofs.YteibjmlimcpaoaaGreatDoor.W
open Go.RowKit Go.Sort

theorem below_alloc (w : World) (o : Obj) : Below w.heap.size w (w.alloc o) := (Below.refl _ _).alloc (Nat.le_refl _) o

set_option maxRecDepth 100000 in
set_option maxHeartbeats 1000000 in
theorem clipW (whole begin size : Nat) (w : World) (h1 : whole ≤ 2000) (h2 : begin < 4611686018427387904) (h3 : size < 4611686018427387904) :
    Calls Tryz.prog 90 #[.int .i64 whole, .int .i64 begin, .int .i64 size] w fun e w' => e = .returned (.tuple #[.int .i64 ((min begin whole : Nat) : Int), .int .i64 ((min size (whole - min begin whole) : Nat) : Int)]) ∧ w' = w := by
  go_enter Tryz.func90, Tryz.ntmps90
  go_wp2
  all_goals (
    go_ret2
    simp only [Ending.returned.injEq, Value.tuple.injEq, Array.mk.injEq, List.cons.injEq, Value.int.injEq, true_and, and_true]
    refine ⟨congrArg (Value.int IntKind.i64) ?_, congrArg (Value.int IntKind.i64) ?_⟩ <;> omega)

set_option maxRecDepth 100000 in
set_option maxHeartbeats 1000000 in
theorem holdsW (whole begin size : Nat) (w : World) (h1 : whole ≤ 2000) (h2 : begin < 4611686018427387904) (h3 : size < 4611686018427387904) :
    Calls Tryz.prog 127 #[.int .i64 whole, .int .i64 begin, .int .i64 size] w fun e w' => e = .returned (.bool (holdsB whole begin size)) ∧ w' = w := by
  unfold holdsB
  by_cases c : begin ≤ whole
  · have c' : (begin : Int) ≤ (whole : Int) := by omega
    have e : decide (begin ≤ whole ∧ size ≤ whole - begin) = decide ((size : Int) ≤ (whole : Int) - (begin : Int)) := by
      apply decide_eq_decide.2
      omega
    rw [e]
    have wr := wrapL ((whole : Int) - (begin : Int)) (by omega) (by omega)
    clear e c
    go_enter Tryz.func127, Tryz.ntmps127
    go_wp2
    go_ret
    simp
  · have c' : ¬ ((begin : Int) ≤ (whole : Int)) := by omega
    rw [show decide (begin ≤ whole ∧ size ≤ whole - begin) = false by simp [c]]
    go_enter Tryz.func127, Tryz.ntmps127
    go_wp2
    go_ret
    simp

theorem cut_in {t : Wn} {D : List UInt8} (h : InF t D) (begin size : Nat) : InF (t.cut begin size) D := by
  obtain ⟨h1, h2⟩ := h
  refine ⟨?_, h2⟩
  unfold Wn.cut
  simp only
  omega
theorem InF.s {t : Wn} {D : List UInt8} (h : InF t D) : t.s ≤ 2000 := by have := h.1; have := h.2; omega
theorem InF.b {t : Wn} {D : List UInt8} (h : InF t D) : t.b ≤ 2000 := by have := h.1; have := h.2; omega

/-- a window as a value, whatever file it is of -/
def wq (q : Option Addr) (t : Wn) : Value := .agg #[.pointer q, .int .i64 t.b, .int .i64 t.s]

set_option maxRecDepth 100000 in
set_option maxHeartbeats 1000000 in
theorem twinW (q : Option Addr) (t : Wn) (begin size : Nat) (w : World) (h1 : t.b ≤ 2000) (h1' : t.s ≤ 2000) (h2 : begin < 4611686018427387904) (h3 : size < 4611686018427387904) :
    Calls Tryz.prog 93 #[wq q t, .int .i64 begin, .int .i64 size] w fun e w' => e = .returned (wq q (t.cut begin size)) ∧ Below w.heap.size w w' := by
  have A := Lib.hid (fun w => clipW t.s begin size w h1' h2 h3)
  unfold Wn.cut wq
  simp only
  have hb : min begin t.s ≤ 2000 := by omega
  generalize min begin t.s = b' at *
  generalize min size (t.s - b') = s' at *
  have e1 : ((t.b + b' : Nat) : Int) = (t.b : Int) + b' := by omega
  rw [e1]
  clear e1
  have hb' : b' ≤ 2000 := hb
  clear hb
  go_enter Tryz.func93, Tryz.ntmps93
  go_wp2_with (go_at_call 90; refine (A.out _).mono ?_; rintro e w1 ⟨rfl, rfl⟩)
  exact bodyPost_ret (v := .agg #[.pointer q, .int .i64 ((t.b : Int) + b'), .int .i64 s']) (by simp [results, Tryz.results93, go_sem]) rfl ⟨rfl, (below_alloc _ _).trans ((below_alloc _ _).mono (by simp))⟩

set_option maxRecDepth 100000 in
set_option maxHeartbeats 1000000 in
theorem fwinW (p : Nat) (m : Mt) (D : List UInt8) (begin size : Nat) (w : World) (hD : D.length ≤ 2000) (h2 : begin < 4611686018427387904) (h3 : size < 4611686018427387904) (h : FlAt p m D w) :
    Calls Tryz.prog 69 #[.pointer (some ⟨p, 0, none⟩), .int .i64 begin, .int .i64 size] w fun e w' => e = .returned (wv p ((Wn.mk 0 D.length).cut begin size)) ∧ Below w.heap.size w w' := by
  have A := Lib.hid (fun w => clipW D.length begin size w hD h2 h3)
  unfold Wn.cut wv
  simp only [Nat.zero_add]
  generalize min begin D.length = b' at *
  generalize min size (D.length - b') = s' at *
  have h0 := fl_alloc h (.cells #[.pointer none, .int .i64 0, .int .i64 0] 126)
  have x4 := cellsAt h0 4
  simp only [List.getElem?_toArray, List.getElem?_cons_zero, List.getElem?_cons_succ] at x4
  have hz : (ByteArray.mk D.toArray).size = D.length := by show Array.size _ = _; simp
  generalize D.length = n at *
  generalize ByteArray.mk D.toArray = B at *
  subst hz
  have hlt := fl_lt h
  clear h0 h
  go_enter Tryz.func69, Tryz.ntmps69
  go_wp2_with (go_at_call 90; refine (A.out _).mono ?_; rintro e w1 ⟨rfl, rfl⟩)
  exact bodyPost_ret (v := .agg #[.pointer (some ⟨p, 0, none⟩), .int .i64 b', .int .i64 s']) (by simp [results, Tryz.results69, go_sem]) rfl ⟨rfl, below_alloc _ _⟩

set_option maxRecDepth 100000 in
set_option maxHeartbeats 1000000 in
theorem fholdsW (p : Nat) (m : Mt) (D : List UInt8) (begin size : Nat) (w : World) (hD : D.length ≤ 2000) (h2 : begin < 4611686018427387904) (h3 : size < 4611686018427387904) (h : FlAt p m D w) :
    Calls Tryz.prog 96 #[.pointer (some ⟨p, 0, none⟩), .int .i64 begin, .int .i64 size] w fun e w' => e = .returned (.bool (holdsB D.length begin size)) ∧ w' = w := by
  have A := Lib.hid (fun w => holdsW D.length begin size w hD h2 h3)
  have x4 := cellsAt h 4
  simp only [List.getElem?_toArray, List.getElem?_cons_zero, List.getElem?_cons_succ] at x4
  have hz : (ByteArray.mk D.toArray).size = D.length := by show Array.size _ = _; simp
  clear h
  generalize D.length = n at *
  generalize ByteArray.mk D.toArray = B at *
  subst hz
  generalize holdsB B.size begin size = z at *
  go_enter Tryz.func96, Tryz.ntmps96
  go_wp2_with (go_at_call 127; refine (A.out _).mono ?_; rintro e w1 ⟨rfl, rfl⟩)
  go_ret
  exact ⟨rfl, rfl⟩

set_option maxRecDepth 100000 in
set_option maxHeartbeats 1000000 in
theorem tholdsW (q : Option Addr) (t : Wn) (begin size : Nat) (w : World) (h1 : t.s ≤ 2000) (h2 : begin < 4611686018427387904) (h3 : size < 4611686018427387904) :
    Calls Tryz.prog 130 #[wq q t, .int .i64 begin, .int .i64 size] w fun e w' => e = .returned (.bool (holdsB t.s begin size)) ∧ Below w.heap.size w w' := by
  have A := Lib.hid (fun w => holdsW t.s begin size w h1 h2 h3)
  unfold wq
  generalize holdsB t.s begin size = z at *
  go_enter Tryz.func130, Tryz.ntmps130
  go_wp2_with (go_at_call 127; refine (A.out _).mono ?_; rintro e w1 ⟨rfl, rfl⟩)
  go_ret
  exact ⟨rfl, below_alloc _ _⟩

set_option maxRecDepth 100000 in
set_option maxHeartbeats 1000000 in
theorem spentW (p : Nat) (m : Mt) (D : List UInt8) (w : World) (h : FlAt p m D w) :
    Calls Tryz.prog 56 #[.pointer (some ⟨p, 0, none⟩)] w fun e w' => e = .returned (.bool m.spent) ∧ w' = w := by
  have x1 := cellsAt h 1
  simp only [List.getElem?_toArray, List.getElem?_cons_zero, List.getElem?_cons_succ] at x1
  clear h
  go_enter Tryz.func56, Tryz.ntmps56
  go_wp2
  go_ret
  exact ⟨rfl, rfl⟩

set_option maxRecDepth 100000 in
set_option maxHeartbeats 1000000 in
theorem toldW (p : Nat) (m : Mt) (D : List UInt8) (w : World) (h : FlAt p m D w) :
    Calls Tryz.prog 57 #[.pointer (some ⟨p, 0, none⟩)] w fun e w' => e = .returned (.agg #[.int .i64 m.steps, .int .i64 m.read]) ∧ Below w.heap.size w w' := by
  have hlt := fl_lt h
  have h0 := fl_alloc h (.cells #[.int .i64 0, .int .i64 0] 41)
  have x2 := cellsAt h0 2
  have x3 := cellsAt h0 3
  simp only [List.getElem?_toArray, List.getElem?_cons_zero, List.getElem?_cons_succ] at x2 x3
  clear h h0
  go_enter Tryz.func57, Tryz.ntmps57
  go_wp2
  exact bodyPost_ret (v := .agg #[.int .i64 m.steps, .int .i64 m.read]) (by simp [results, Tryz.results57, go_sem]) rfl ⟨rfl, below_alloc _ _⟩

set_option maxRecDepth 100000 in
set_option maxHeartbeats 1000000 in
theorem tsizeW (q : Option Addr) (t : Wn) (w : World) :
    Calls Tryz.prog 91 #[wq q t] w fun e w' => e = .returned (.int .i64 t.s) ∧ Below w.heap.size w w' := by
  unfold wq
  go_enter Tryz.func91, Tryz.ntmps91
  go_wp2
  go_ret
  exact ⟨rfl, below_alloc _ _⟩

set_option maxRecDepth 100000 in
set_option maxHeartbeats 1000000 in
theorem fsizeW (p : Nat) (m : Mt) (D : List UInt8) (w : World) (hD : D.length ≤ 2000) (h : FlAt p m D w) :
    Calls Tryz.prog 67 #[.pointer (some ⟨p, 0, none⟩)] w fun e w' => e = .returned (.int .i64 D.length) ∧ w' = w := by
  have x4 := cellsAt h 4
  simp only [List.getElem?_toArray, List.getElem?_cons_zero, List.getElem?_cons_succ] at x4
  have hz : (ByteArray.mk D.toArray).size = D.length := by show Array.size _ = _; simp
  clear h
  generalize D.length = n at *
  generalize ByteArray.mk D.toArray = B at *
  subst hz
  go_enter Tryz.func67, Tryz.ntmps67
  go_wp2
  go_ret
  exact ⟨rfl, rfl⟩

set_option maxRecDepth 100000 in
set_option maxHeartbeats 1000000 in
theorem placesW (q : Option Addr) (t : Wn) (w : World) (h1 : t.b ≤ 2000) (h1' : t.s ≤ 2000) :
    Calls Tryz.prog 89 #[wq q t] w fun e w' => e = .returned (.tuple #[.int .i64 t.b, .int .i64 ((t.b + t.s : Nat) : Int)]) ∧ Below w.heap.size w w' := by
  have e1 : ((t.b + t.s : Nat) : Int) = (t.b : Int) + t.s := by omega
  rw [e1]
  have wr := wrapL ((t.b : Int) + t.s) (by omega) (by omega)
  unfold wq
  go_enter Tryz.func89, Tryz.ntmps89
  go_wp2_with fail
  go_region
  all_goals go_wp2
  all_goals (
    go_ret2
    exact ⟨rfl, (below_alloc _ _).drew⟩)

set_option maxRecDepth 100000 in
set_option maxHeartbeats 1000000 in
theorem sharesW (q q' : Option Addr) (t o : Wn) (w : World) (h1 : t.b ≤ 2000) (h2 : t.s ≤ 2000) (h3 : o.b ≤ 2000) (h4 : o.s ≤ 2000) :
    Calls Tryz.prog 160 #[wq q t, wq q' o] w fun e w' => e = .returned (.bool (t.shares o)) ∧ Below w.heap.size w w' := by
  unfold wq Wn.shares
  have w1 := wrapL ((t.b : Int) + t.s) (by omega) (by omega)
  have w2 := wrapL ((o.b : Int) + o.s) (by omega) (by omega)
  go_enter Tryz.func160, Tryz.ntmps160
  go_wp2
  all_goals (
    go_ret
    refine ⟨congrArg (fun b => Ending.returned (Value.bool b)) (decide_eq_decide.2 ?_), (below_alloc _ _).trans ((below_alloc _ _).mono (by simp))⟩
    omega)
end Go.Proofs.YteibjmlimcpaoaaGreatDoor.W

set_option linter.unusedVariables false
set_option linter.unusedSimpArgs false
namespace Go.Proofs.YteibjmlimcpaoaaGreatDoor.W
open Go.RowKit Go.Sort

theorem infoByte : (Tryz.prog.info? 5).map (fun i => (i.zero, i.size, i.bytes)) = some (some (.int .u8 0), 1, 1) := by kernel_rfl
theorem own_ne_old' {w : World} {B p e size n : Nat} {v : Value} {xs : List Value} (h : w.ownsRow B e size v n xs) (hp : p < B) : v.ownBlock ≠ some p := by
  intro e
  have := (h.lt p e).1
  omega
theorem own_ne_old {w : World} {B p e size n : Nat} {v : Value} {xs : List Value} (h : w.ownsRow B e size v n xs) (hp : p < B) : v.ownBlock = none ∨ v.ownBlock ≠ some p := .inr (own_ne_old' h hp)
theorem grown_row {w w1 w2 : World} {r row : Option Nat} (h : w.grownBy w1 r) (k : w1.grownBy w2 row) (hr : ∀ j, row = some j → w.heap.size ≤ j) : w.grownBy w2 r :=
  ⟨k.os.trans h.os, k.tape.trans h.tape, k.output.trans h.output, Nat.le_trans h.size k.size, fun i hi hn => (k.block i (Nat.lt_of_lt_of_le hi h.size) (fun e => by have := hr i e.symm; omega)).trans (h.block i hi hn)⟩
theorem grown_none {w w1 : World} {r : Option Nat} (h : w.grownBy w1 none) : w.grownBy w1 r := ⟨h.os, h.tape, h.output, h.size, fun i hi _ => h.block i hi (by simp)⟩
theorem addr_add (b o j : Nat) : (⟨b, o, none⟩ : Addr).add j = ⟨b, o + j, none⟩ := by simp [Addr.add]
theorem newCells (w : World) (cs : List Value) (T : TypeId) : ∀ j u, cs[j]? = some u → (w.alloc (.cells cs.toArray T)).cell? ((⟨w.heap.size, 0, none⟩ : Addr).add j) = some u := by
  intro j u hj
  rw [addr_add, Nat.zero_add, World.cell?_alloc_new]
  simpa using hj
theorem byteCells_length (l : List UInt8) : (Lib.byteCells l).length = l.length := by simp [Lib.byteCells]
theorem byteCells_append (a b : List UInt8) : Lib.byteCells (a ++ b) = Lib.byteCells a ++ Lib.byteCells b := by simp [Lib.byteCells]
theorem run_conv_own (w : World) (B : Nat) (l : List UInt8) (v : Value) (h : w.ownsRow B 5 1 v l.length (Lib.byteCells l)) (hn : v ≠ .slice none 0 0) :
    (convert 143 9 v).run Tryz.prog w = .ok (.string ⟨l.toArray⟩) w := by
  rcases h.2 with ⟨hv, _⟩ | ⟨g, cap, cur, hv, _⟩
  · exact absurd hv hn
  subst hv
  refine run_convert_bytes_back _ 143 9 5 ⟨g, 0, none⟩ _ l Tryz.underlying143 Tryz.underlying5 Tryz.underlying9 ?_
  intro j hj
  refine h.cells rfl j _ ?_
  simp [Lib.byteCells, hj]
theorem own_slice {w : World} {B e size n : Nat} {v : Value} {xs : List Value} (h : w.ownsRow B e size v n xs) : ∃ ao cap, v = .slice ao n cap := by
  rcases h.2 with ⟨hv, h0⟩ | ⟨g, cap, cur, hv, _⟩
  · subst h0
    exact ⟨_, _, hv⟩
  · exact ⟨_, _, hv⟩

theorem bytesAt_succ (D : List UInt8) (i n : Nat) (m : Mt) : (bytesAt i (n + 1)).run D m = if m.spent = true then ([], m) else ((if m.left = 0 then 0 else D.getD i 0) :: ((bytesAt (i + 1) n).run D m.reads).1, ((bytesAt (i + 1) n).run D m.reads).2) := by
  rw [bytesAt]
  simp only [Pr.run]
  by_cases h : m.spent = true
  · rw [if_pos h, if_pos h]
    rfl
  · rw [if_neg h, if_neg h]
    simp only [Pr.run]
    rw [Pr.run_bind]
    rfl
theorem byte_run (D : List UInt8) (t : Wn) (i : Nat) (m : Mt) (h : i < t.s) : (t.byte i).run D m = ((if m.left = 0 then 0 else D.getD (t.b + i) 0).toNat, m.reads) := by
  unfold Wn.byte
  rw [if_pos h]
  rfl

set_option maxRecDepth 100000 in
set_option maxHeartbeats 2000000 in
theorem bytesW (p : Nat) (t : Wn) (m : Mt) (D : List UInt8) (w : World) (ht : InF t D) (hm : MOk m) (h : FlAt p m D w) (L : List UInt8) (M : Mt) (hL : (t.bytes.run D m).1 = L) (hM : (t.bytes.run D m).2 = M) :
    Calls Tryz.prog 94 #[wv p t] w fun e w' => e = .returned (.string ⟨L.toArray⟩) ∧ FlAt p M D w' ∧ w.grownBy w' (some p) := by
  obtain ⟨i0, hi, hz0, hz1, hz2⟩ := info_parts infoByte
  have hts := ht.s
  have hlt := fl_lt h
  have hne : w.heap.size ≠ p := by omega
  obtain ⟨w2, mk, own2, g2⟩ := run_make_own (P := Tryz.prog) (w.alloc (.cells #[.pointer (some ⟨p, 0, none⟩), .int .i64 (t.b : Int), .int .i64 (t.s : Int)] 126)) (w.heap.size + 1) 143 5 i0 _ 1 Tryz.underlying143 hi hz0 hz1 .i64 .i64 t.s (by rw [hz2]; omega) (by unfold maxLen; omega) (by simp)
  have hr := new_at w (.cells #[.pointer (some ⟨p, 0, none⟩), .int .i64 (t.b : Int), .int .i64 (t.s : Int)] 126)
  have hf2 : FlAt p m D w2 := grown_at (p := w.heap.size + 5) (grown_none g2) (fl_alloc h _) (by omega)
  have hr2 : w2.heap[w.heap.size]? = some (.cells #[.pointer (some ⟨p, 0, none⟩), .int .i64 (t.b : Int), .int .i64 (t.s : Int)] 126 (0, 0)) := grown_at (p := w.heap.size + 5) (grown_none g2) hr (by omega)
  have gg : w.grownBy w2 (some p) := grown_trans (World.grownBy_alloc _ _ _) (grown_none g2)
  have hsz : w.heap.size < w2.heap.size := at_lt hr2
  unfold Wn.bytes at hL hM
  have hms : (w.alloc (.cells #[.pointer (some ⟨p, 0, none⟩), .int .i64 (t.b : Int), .int .i64 (t.s : Int)] 126)).heap.size = w.heap.size + 1 := by simp
  rw [hms] at mk own2
  have B := Lib.hid (fun (i : Nat) m w hi hm h => byteW p i t m D w hi ht hm h)
  have S := Lib.hid (fun m w h => spentW p m D w h)
  unfold wv at B ⊢
  clear hr g2 h hms
  go_enter Tryz.func94, Tryz.ntmps94
  go_wp2
  go_loopw [3, 4] (fun os is wr => ∃ (k : Nat) (mm : Mt) (acc : List UInt8), is = .int .i64 (k : Int) ∧ k ≤ t.s ∧ acc.length = k ∧ MOk mm ∧ FlAt p mm D wr ∧ w.grownBy wr (some p) ∧ wr.ownsRow (w.heap.size + 1) 5 1 os k (Lib.byteCells acc) ∧ os ≠ .slice none 0 0 ∧ wr.heap[w.heap.size]? = some (.cells #[.pointer (some ⟨p, 0, none⟩), .int .i64 (t.b : Int), .int .i64 (t.s : Int)] 126 (0, 0)) ∧ Hid (acc ++ ((bytesAt (t.b + k) (t.s - k)).run D mm).1 = L) ∧ Hid (((bytesAt (t.b + k) (t.s - k)).run D mm).2 = M)) (fun _ is _ => t.s - (intOf is).toNat)
  case atStart => exact ⟨0, m, [], rfl, Nat.zero_le _, rfl, hm, hf2, gg, own2, by simp, hr2, by show _ = _; simpa using hL, by show _ = _; simpa using hM⟩
  case round =>
    obtain ⟨k, mm, acc, rfl, hk, hacc, hmm, hf, hg, hown, hnn, hbx, H1, H2⟩ := hrel
    clear hL hM hf2 gg own2 hr2 mk hm
    have x0 := cellsAt hbx 0
    have x1 := cellsAt hbx 1
    have x2 := cellsAt hbx 2
    simp only [List.getElem?_toArray, List.getElem?_cons_zero, List.getElem?_cons_succ] at x0 x1 x2
    by_cases hklt : k < t.s
    · have ik : (k : Int) < (t.s : Int) := by omega
      have SP := Lib.hid (S.out mm wr hf)
      cases hsp : mm.spent with
      | false =>
        rw [hsp] at SP
        obtain ⟨n, hn⟩ : ∃ n, t.s - k = n + 1 := ⟨t.s - k - 1, by omega⟩
        have h1 := H1.out
        have h2 := H2.out
        rw [hn, bytesAt_succ, hsp, if_neg (by simp)] at h1 h2
        simp only at h1 h2
        have hn' : t.s - (k + 1) = n := by omega
        rw [← hn'] at h1 h2
        have A := Lib.hid (B.out k mm wr (by omega) hmm hf)
        rw [byte_run D t k mm hklt] at A
        simp only at A
        generalize (if mm.left = 0 then 0 else D.getD (t.b + k) 0) = z at A h1
        have hmr := hmm.reads
        generalize mm.reads = m' at *
        have K1 : Hid ((acc ++ [z]) ++ ((bytesAt (t.b + (k + 1)) (t.s - (k + 1))).run D m').1 = L) := by show _ = _; rw [← h1, Nat.add_assoc]; simp
        have K2 : Hid (((bytesAt (t.b + (k + 1)) (t.s - (k + 1))).run D m').2 = M) := by show _ = _; rw [← h2, Nat.add_assoc]
        have hz := z.toNat_lt
        obtain ⟨zz, hzz⟩ : ∃ zz : Nat, z.toNat = zz := ⟨_, rfl⟩
        rw [hzz] at A hz
        clear h1 h2 H1 H2 hn hn' n hsp S
        obtain ⟨ao, cap, rfl⟩ := own_slice hown
        go_wp2_with (first | (go_at_call 56; refine SP.out.mono ?_; rintro e w0 ⟨rfl, h0⟩; have h0 := h0.symm; subst h0) | (go_at_call 126; refine A.out.mono ?_; rintro e w1 ⟨rfl, k1, g1⟩; refine Hid.out ?_))
        have own1 : w1.ownsRow (w.heap.size + 1) 5 1 _ k (Lib.byteCells acc) := hown.kept g1 (own_ne_old hown (by omega))
        have hg1 := grown_trans hg g1
        have hbx1 := grown_at g1 hbx hne
        have hw8 : IntKind.u8.wrap (zz : Int) = zz := by rw [IntKind.wrap_u8]; omega
        have hsw : w.heap.size + 1 ≤ w1.heap.size := at_lt hbx1
        clear x0 x1 x2 A SP hf hg hown hbx
        refine Lib.hid ?_
        go_wp2_with (at_builtin; refine wpList_append_own _ rfl _ _ 143 rfl (w.heap.size + 1) 5 i0 (.int .u8 0) 1 1 Tryz.underlying143 hi hz0 hz1 hz2 rfl (by decide) _ _ _ rfl (own1.alloc _) ⟨w1.heap.size, 0, none⟩ 1 1 [.int .u8 (zz : Int)] rfl rfl (newCells _ _ _) (by simp [Value.oneCell']) (by unfold maxLen; omega) (by omega) (by simp; omega) ?_; intro v' w3 hown' hgrow3 hnil3; refine Hid.out ?_)
        have own3 : w3.ownsRow (w.heap.size + 1) 5 1 v' (k + 1) (Lib.byteCells (acc ++ [z])) := by
          rw [byteCells_append, show Lib.byteCells [z] = [.int .u8 (zz : Int)] by simp [Lib.byteCells, hzz]]
          exact hown'
        have hnb : ∀ j, (Value.slice ao k cap).ownBlock = some j → w.heap.size + 1 ≤ j := fun j hj => (own1.lt _ hj).1
        have r3 : FlAt p m' D w3 := (hgrow3.block p (by simp; omega) (fun e => by have := hnb p e.symm; omega)).trans (fl_alloc k1 _)
        have bx3 : w3.heap[w.heap.size]? = _ := (hgrow3.block w.heap.size (by simp; omega) (fun e => by have := hnb _ e.symm; omega)).trans (at_alloc hbx1)
        have g3 : w.grownBy w3 (some p) := grown_row (grown_trans hg1 (World.grownBy_alloc _ _ _)) hgrow3 (fun j hj => by have := hnb j hj; omega)
        have nn3 : v' ≠ .slice none 0 0 := fun e => by have := (hnil3.1 e).2; omega
        clear hown' hgrow3 hnil3 own1 hg1 k1 g1 hbx1
        refine Lib.hid ?_
        go_wp2
        refine ⟨⟨k + 1, m', acc ++ [z], by go_num, by omega, by simp [hacc], hmr, r3, g3, own3, nn3, bx3, K1, K2⟩, by simp [intOf]; omega⟩
      | true =>
        rw [hsp] at SP
        obtain ⟨n, hn⟩ : ∃ n, t.s - k = n + 1 := ⟨t.s - k - 1, by omega⟩
        have h1 := H1.out
        have h2 := H2.out
        rw [hn, bytesAt_succ, hsp, if_pos rfl] at h1 h2
        simp only [List.append_nil] at h1 h2
        subst h1 h2
        subst hacc
        have cv := run_conv_own wr _ acc u3 hown hnn
        obtain ⟨ao, cap, rfl⟩ := own_slice hown
        clear hn H1 H2 S
        go_wp2_with (go_at_call 56; refine SP.out.mono ?_; rintro e w1 ⟨rfl, rfl⟩)
        go_ret
        exact ⟨rfl, hf, hg⟩
    · have ik : ¬ ((k : Int) < (t.s : Int)) := by omega
      have h1 := H1.out
      have h2 := H2.out
      rw [show t.s - k = 0 by omega, bytesAt] at h1 h2
      simp only [Pr.run, List.append_nil] at h1 h2
      subst h1 h2
      subst hacc
      have cv := run_conv_own wr _ acc u3 hown hnn
      obtain ⟨ao, cap, rfl⟩ := own_slice hown
      clear H1 H2 S
      go_wp2
      go_ret
      exact ⟨rfl, hf, hg⟩
end Go.Proofs.YteibjmlimcpaoaaGreatDoor.W
