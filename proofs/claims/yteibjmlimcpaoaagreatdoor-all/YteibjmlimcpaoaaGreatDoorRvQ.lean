/-
  The document's own side, visorref.Inspect: where the policy, the report and its lists lie while it runs.
-/
import Derived.Test.YteibjmlimcpaoaaGreatDoorRvO
import Derived.Test.YteibjmlimcpaoaaGreatDoorRvP
import Derived.Test.YteibjmlimcpaoaaGreatDoorRc
import Derived.Test.YteibjmlimcpaoaaGreatDoorRvM
import Derived.Test.YteibjmlimcpaoaaGreatDoorWf
import Derived.Deep.AppendLies
set_option linter.unusedVariables false
set_option linter.unusedSimpArgs false
namespace Go.Proofs.YteibjmlimcpaoaaGreatDoor.V
open Go.RowKit Go.Sort
open Go.Proofs.YteibjmlimcpaoaaGreatDoor.W (at_below at_alloc new_at below_alloc cellsAt strV PolIs pv RowIs own_form own_slice own_any own_kind_ne' grown_set grown_at grown_below grown_trans)

/-- visorref.Inspect at work: the policy's box, the result's box, the report's own block, the lists -/
structure IS (w : World) (rb : Nat) (PC RC : Array Value) (VT VN : Value) (lt : List Tab) (ln : List Nm) (wr : World) : Prop where
  bw : Below w.heap.size w wr
  hp : wr.heap[w.heap.size]? = some (.cells PC 25 (0, 0))
  ho : wr.heap[w.heap.size + 1]? = some (.cells #[.int .i64 0, .slice none 0 0, .int .i64 0, .int .i64 0, .int .i64 0, .int .i64 0, .int .i64 0, .int .i64 0, .int .i64 0, .slice none 0 0, .int .i64 0, .int .i64 0, .int .i64 0] 39 (0, 0))
  hr : wr.heap[rb]? = some (.cells RC 39 (0, 0))
  h1 : w.heap.size + 1 < rb
  oT : wr.ownsRow w.heap.size 74 3 VT lt.length (tcells lt)
  oN : wr.ownsRow w.heap.size 72 7 VN ln.length (ncells ln)
theorem IS.below {w : World} {rb : Nat} {PC RC : Array Value} {VT VN : Value} {lt : List Tab} {ln : List Nm} {wr wx : World} (h : IS w rb PC RC VT VN lt ln wr) (hb : Below wr.heap.size wr wx) : IS w rb PC RC VT VN lt ln wx :=
  ⟨h.bw.trans (hb.mono h.bw.size), at_below h.hp hb, at_below h.ho hb, at_below h.hr hb, h.h1, own_any h.oT hb, own_any h.oN hb⟩
theorem IS.set {w : World} {rb : Nat} {PC RC : Array Value} {VT VN : Value} {lt : List Tab} {ln : List Nm} {wr : World} (h : IS w rb PC RC VT VN lt ln wr) (i : Nat) (v : Value) : IS w rb PC (RC.setIfInBounds i v) VT VN lt ln (wr.setCell ⟨rb, i, none⟩ v) :=
  have h1 := h.h1
  ⟨h.bw.setCell (p := ⟨rb, i, none⟩) (by show _ ≤ rb; omega) v, set_other h.hp (by omega), set_other h.ho (by omega), Go.Proofs.YteibjmlimcpaoaaGreatDoor.W.setCell_row h.hr v, h1,
    h.oT.kept (grown_set (World.grownBy.refl _ _) i v) (.inr (own_kind_ne' h.oT h.hr (by decide))), h.oN.kept (grown_set (World.grownBy.refl _ _) i v) (.inr (own_kind_ne' h.oN h.hr (by decide)))⟩
theorem IS.names {w : World} {rb : Nat} {PC RC : Array Value} {VT VN VN' : Value} {lt : List Tab} {ln ln' : List Nm} {wr : World} (h : IS w rb PC RC VT VN lt ln wr) (o : wr.ownsRow w.heap.size 72 7 VN' ln'.length (ncells ln')) : IS w rb PC RC VT VN' lt ln' wr :=
  ⟨h.bw, h.hp, h.ho, h.hr, h.h1, h.oT, o⟩
/-- one more table: the row grows, or is laid anew -/
theorem IS.push {w : World} {rb : Nat} {PC RC : Array Value} {VT VN : Value} {lt : List Tab} {ln : List Nm} {wr wa w3 : World} {g c : Nat} {x : Tab} (h : IS w rb PC RC VT VN lt ln wr) (hb : Below wr.heap.size wr wa) (gr : wa.grownBy w3 VT.ownBlock)
    (o : w3.ownsRow w.heap.size 74 3 (.slice (some ⟨g, 0, none⟩) (lt.length + 1) c) (lt.length + 1) (tcells lt ++ tcells [x])) :
    IS w rb PC RC (.slice (some ⟨g, 0, none⟩) (lt.length + 1) c) VN (lt ++ [x]) ln w3 := by
  have k := h.below hb
  have key : ∀ (j : Nat) (cs : Array Value) (T : TypeId), wa.heap[j]? = some (.cells cs T (0, 0)) → T ≠ 74 → w3.heap[j]? = some (.cells cs T (0, 0)) := by
    intro j cs T hj hT
    rw [gr.block j (Array.getElem?_eq_some_iff.1 hj).1 (fun e => own_kind_ne' k.oT hj hT e.symm)]
    exact hj
  refine ⟨k.bw.grown gr k.bw.size (fun j hj => (k.oT.lt j hj).1), key _ _ _ k.hp (by decide), key _ _ _ k.ho (by decide), key _ _ _ k.hr (by decide), k.h1, ?_, k.oN.kept gr ?_⟩
  · rw [List.length_append, tcells_append]
    exact o
  · cases hv : VN.ownBlock with
    | none => exact .inl rfl
    | some b =>
      right
      obtain ⟨c, fz, hb2⟩ := Lib.ownsRow_kind k.oN b hv
      exact fun e => own_kind_ne' k.oT hb2 (by decide) e.symm
end Go.Proofs.YteibjmlimcpaoaaGreatDoor.V
