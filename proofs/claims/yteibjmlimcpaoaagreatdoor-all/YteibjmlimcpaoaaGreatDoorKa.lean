/-
  What the laws' own two, four and small answer: nothing that lay in memory turns.
  What the laws' own same answers of two reports that are the same, wherever their lists lie: true; of any report and the empty one: true if it is that. Nothing that lay in memory turns.
  What the laws' own least answers. Nothing that lay in memory turns.
  What the laws' own known answers: true. Nothing that lay in memory turns.
-/
import Derived.Test.YteibjmlimcpaoaaGreatDoorEa
import Derived.Test.YteibjmlimcpaoaaGreatDoorPa
import Derived.Test.YteibjmlimcpaoaaGreatDoorWb
import Derived.Test.YteibjmlimcpaoaaGreatDoorWf
import Derived.Test.YteibjmlimcpaoaaGreatDoorWg
set_option linter.unusedVariables false
set_option linter.unusedSimpArgs false
namespace Go.Proofs.YteibjmlimcpaoaaGreatDoor.K
open Go.RowKit Go.Sort

end Go.Proofs.YteibjmlimcpaoaaGreatDoor.K

set_option linter.unusedVariables false
set_option linter.unusedSimpArgs false
namespace Go.Proofs.YteibjmlimcpaoaaGreatDoor.K
open Go.RowKit Go.Sort
open Go.Proofs.YteibjmlimcpaoaaGreatDoor.W (at_below at_alloc new_at below_alloc)

theorem below_drewN' {B : Nat} {a w : World} (h : Below B a w) : ∀ q, Below B a (w.drewN q)
  | 0 => h
  | q + 1 => (below_drewN' h q).drew
theorem new_at1 (w : World) (o p : Obj) : ((w.alloc o).alloc p).heap[w.heap.size + 1]? = some p := by
  have := new_at (w.alloc o) p
  simpa using this
end Go.Proofs.YteibjmlimcpaoaaGreatDoor.K

set_option linter.unusedVariables false
set_option linter.unusedSimpArgs false
namespace Go.Proofs.YteibjmlimcpaoaaGreatDoor.K
open Go.RowKit Go.Sort
open Go.Proofs.YteibjmlimcpaoaaGreatDoor.W (at_below at_alloc new_at below_alloc)

def cntT (l : List Tab) : Nat := (l.filter fun t => decide (t.st = 0 ∨ t.st = 4)).length
theorem cntT_step (l : List Tab) (k : Nat) (x : Tab) (h : l[k]? = some x) : cntT (l.take (k + 1)) = cntT (l.take k) + if x.st = 0 ∨ x.st = 4 then 1 else 0 := by
  have hk := (List.getElem?_eq_some_iff.1 h).1
  have e : l.take (k + 1) = l.take k ++ [x] := by
    rw [List.take_add_one, h]
    rfl
  unfold cntT
  rw [e, List.filter_append, List.length_append]
  by_cases hx : x.st = 0 ∨ x.st = 4
  · simp [hx]
  · simp [hx]
theorem cntT_le (l : List Tab) (k : Nat) : cntT (l.take k) ≤ k := by
  unfold cntT
  have := List.length_filter_le (fun t : Tab => decide (t.st = 0 ∨ t.st = 4)) (l.take k)
  rw [List.length_take] at this
  omega
theorem val_int {k : IntKind} {a b : Int} (h : a = b) : Value.int k a = Value.int k b := by rw [h]
theorem ret_int {k : IntKind} {a b : Int} (h : a = b) : Ending.returned (.int k a) = .returned (.int k b) := by rw [h]

end Go.Proofs.YteibjmlimcpaoaaGreatDoor.K

set_option linter.unusedVariables false
set_option linter.unusedSimpArgs false
namespace Go.Proofs.YteibjmlimcpaoaaGreatDoor.W
open Go.RowKit Go.Sort

/-- a walk behind two boxes: a report's, a meter's, each there or not yet -/
structure Kx (W : World) (a b : Option Nat) (w : World) : Prop where
  g : Below W.heap.size W w
  a : ∀ j, a = some j → W.heap.size ≤ j ∧ w.heap[j]? = some (.cells #[.int .i64 0, .slice none 0 0, .int .i64 0, .int .i64 0, .int .i64 0, .int .i64 0, .int .i64 0, .int .i64 0, .int .i64 0, .slice none 0 0, .int .i64 0, .int .i64 0, .int .i64 0] 39 (0, 0))
  b : ∀ j, b = some j → W.heap.size ≤ j ∧ w.heap[j]? = some (.cells #[.int .i64 0, .int .i64 0] 41 (0, 0))
section
variable {W w w' : World} {a b : Option Nat}
theorem Kx.start : Kx W none none W := ⟨Below.refl _ _, (fun _ e => by cases e), (fun _ e => by cases e)⟩
theorem Kx.drew (h : Kx W a b w) : Kx W a b w.drew := ⟨h.g.drew, h.a, h.b⟩
theorem Kx.A (h : Kx W none b w) : Kx W (some w.heap.size) b (w.alloc (.cells #[.int .i64 0, .slice none 0 0, .int .i64 0, .int .i64 0, .int .i64 0, .int .i64 0, .int .i64 0, .int .i64 0, .int .i64 0, .slice none 0 0, .int .i64 0, .int .i64 0, .int .i64 0] 39)) :=
  ⟨h.g.alloc h.g.size _, fun j e => by cases e; exact ⟨h.g.size, new_at _ _⟩, fun j e => ⟨(h.b j e).1, at_alloc (h.b j e).2⟩⟩
theorem Kx.B (h : Kx W a none w) : Kx W a (some w.heap.size) (w.alloc (.cells #[.int .i64 0, .int .i64 0] 41)) :=
  ⟨h.g.alloc h.g.size _, fun j e => ⟨(h.a j e).1, at_alloc (h.a j e).2⟩, fun j e => by cases e; exact ⟨h.g.size, new_at _ _⟩⟩
theorem Kx.AB (h : Kx W none none w) : Kx W (some w.heap.size) (some (w.heap.size + 1)) ((w.alloc (.cells #[.int .i64 0, .slice none 0 0, .int .i64 0, .int .i64 0, .int .i64 0, .int .i64 0, .int .i64 0, .int .i64 0, .int .i64 0, .slice none 0 0, .int .i64 0, .int .i64 0, .int .i64 0] 39)).alloc (.cells #[.int .i64 0, .int .i64 0] 41)) := by
  have := h.A.B
  simpa using this
theorem Kx.BA (h : Kx W none none w) : Kx W (some (w.heap.size + 1)) (some w.heap.size) ((w.alloc (.cells #[.int .i64 0, .int .i64 0] 41)).alloc (.cells #[.int .i64 0, .slice none 0 0, .int .i64 0, .int .i64 0, .int .i64 0, .int .i64 0, .int .i64 0, .int .i64 0, .int .i64 0, .slice none 0 0, .int .i64 0, .int .i64 0, .int .i64 0] 39)) := by
  have := h.B.A
  simpa using this
theorem Kx.AD (h : Kx W none b w) : Kx W (some w.heap.size) b (w.drew.alloc (.cells #[.int .i64 0, .slice none 0 0, .int .i64 0, .int .i64 0, .int .i64 0, .int .i64 0, .int .i64 0, .int .i64 0, .int .i64 0, .slice none 0 0, .int .i64 0, .int .i64 0, .int .i64 0] 39)) := h.drew.A
theorem Kx.BD (h : Kx W a none w) : Kx W a (some w.heap.size) (w.drew.alloc (.cells #[.int .i64 0, .int .i64 0] 41)) := h.drew.B
theorem Kx.ABD (h : Kx W none none w) : Kx W (some w.heap.size) (some (w.heap.size + 1)) ((w.drew.alloc (.cells #[.int .i64 0, .slice none 0 0, .int .i64 0, .int .i64 0, .int .i64 0, .int .i64 0, .int .i64 0, .int .i64 0, .int .i64 0, .slice none 0 0, .int .i64 0, .int .i64 0, .int .i64 0] 39)).alloc (.cells #[.int .i64 0, .int .i64 0] 41)) := h.drew.AB
theorem Kx.BAD (h : Kx W none none w) : Kx W (some (w.heap.size + 1)) (some w.heap.size) ((w.drew.alloc (.cells #[.int .i64 0, .int .i64 0] 41)).alloc (.cells #[.int .i64 0, .slice none 0 0, .int .i64 0, .int .i64 0, .int .i64 0, .int .i64 0, .int .i64 0, .int .i64 0, .int .i64 0, .slice none 0 0, .int .i64 0, .int .i64 0, .int .i64 0] 39)) := h.drew.BA
theorem Kx.call (h : Kx W a b w) (g : Below w.heap.size w w') : Kx W a b w' :=
  ⟨h.g.trans (g.mono h.g.size), fun j e => ⟨(h.a j e).1, at_below (h.a j e).2 g⟩, fun j e => ⟨(h.b j e).1, at_below (h.b j e).2 g⟩⟩
theorem Kx.ne {k j : Nat} (h : Kx W (some k) (some j) w) : k ≠ j := by
  rintro rfl
  have h1 := (h.a k rfl).2
  rw [(h.b k rfl).2] at h1
  cases h1
end

theorem setAll_size (g : Nat) : ∀ (vs : List Value) (i : Nat) (w : World), (setAll w g i vs).heap.size = w.heap.size
  | [], i, w => rfl
  | v :: vs, i, w => by
    rw [setAll, setAll_size g vs]
    simp
theorem end1 {W w1 : World} {k : Nat} {cs : Array Value} {T : TypeId} (vs : List Value) (q : w1.heap[k]? = some (.cells cs T (0, 0))) (l : cs.toList.length = vs.length) (hk : W.heap.size ≤ k) (hb : Below W.heap.size W w1) :
    (setAll w1 k 0 vs).heap[k]? = some (.cells vs.toArray T (0, 0)) ∧ Below W.heap.size W (setAll w1 k 0 vs) ∧ w1.grownBy (setAll w1 k 0 vs) (some k) ∧ (setAll w1 k 0 vs).heap.size = w1.heap.size := by
  obtain ⟨c1, e1, e2⟩ := setAll_row k T vs 0 w1 cs [] cs.toList [] q (by simp) rfl l
  have t1 : c1 = vs.toArray := by rw [← Array.toList_inj]; simpa using e2
  rw [t1] at e1
  exact ⟨e1, setAll_below hk _ _ _ _ hb, gsA k vs 0 w1 w1 (World.grownBy.refl _ _), setAll_size k vs 0 w1⟩
theorem new_atN {w : World} {n : Nat} (h : w.heap.size = n) (o : Obj) : (w.alloc o).heap[n]? = some o := by
  subst h
  exact new_at _ _

end Go.Proofs.YteibjmlimcpaoaaGreatDoor.W
