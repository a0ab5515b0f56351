/-
  Lists of yes and no in the law's own Book: what it is to stand there still, and what each step of Book.bools leaves. No walk in it.
-/
import Derived.Test.YteibjmlimcpaoaaGreatDoorLStill
set_option linter.unusedVariables false
set_option linter.unusedSimpArgs false
namespace Go.Proofs.YteibjmlimcpaoaaGreatDoor
open Go.RowKit Go.Sort

def OwnB (B : Nat) (w : World) (v : Value) (xs : List Bool) : Prop := w.ownsRow B 4 1 v xs.length (xs.map Value.bool)
/-- a list of yes and no that came out once: what its owner made of it, where it lies, and the owner's own copy -/
structure EnB where
  xs : List Bool
  L : Value
  O : Value
def EnOk (B : Nat) (w : World) (e : EnB) : Prop := OwnB B w e.L e.xs ∧ OwnB B w e.O e.xs
def BookB (B bb : Nat) (es : List EnB) (n : Nat) (w : World) : Prop :=
  B ≤ bb ∧ ∃ VB VW, w.heap[bb]? = some (.cells #[.slice none 0 0, .slice none 0 0, .slice none 0 0, VB, VW, .slice none 0 0, .int .i64 (n : Int)] 56 (0, 0)) ∧
    w.ownsRow B 60 1 VB es.length (es.map (·.L)) ∧ w.ownsRow B 60 1 VW es.length (es.map (·.O)) ∧ (∀ j, VB.ownBlock = some j → VW.ownBlock ≠ some j) ∧ ∀ e ∈ es, EnOk B w e

def FrB (bb : Nat) (lO : Option Nat) (w wr : World) : Prop := ∀ k cs t fz, w.heap[k]? = some (.cells cs t fz) → k ≠ bb → t ≠ 60 → some k ≠ lO → wr.heap[k]? = some (.cells cs t fz)
theorem FrB.below {bb : Nat} {lO : Option Nat} {w w1 w2 : World} (h : FrB bb lO w w1) (hb : Below w1.heap.size w1 w2) : FrB bb lO w w2 :=
  fun k cs t fz a b c d => belowAt' hb (h k cs t fz a b c d)
theorem FrB.row {bb : Nat} {lO : Option Nat} {w w1 w2 : World} {g : Nat} (h : FrB bb lO w w1) (hg : w1.grownBy w2 (some g)) (hc : some g = lO ∨ w.heap.size ≤ g ∨ g = bb) : FrB bb lO w w2 := by
  intro k cs t fz a b c d
  refine grownAt (h k cs t fz a b c d) hg ?_
  rintro rfl
  rcases hc with hc | hc | hc
  · exact d hc
  · have := (Array.getElem?_eq_some_iff.1 a).1
    omega
  · exact b hc
theorem FrB.kind {bb : Nat} {lO : Option Nat} {w w1 w2 : World} {row : Option Nat} (h : FrB bb lO w w1) (hg : w1.grownBy w2 row) (hc : ∀ g, row = some g → ∃ cs fz, w1.heap[g]? = some (.cells cs 60 fz)) : FrB bb lO w w2 := by
  intro k cs t fz a b c d
  have hk := h k cs t fz a b c d
  rw [hg.block k (Array.getElem?_eq_some_iff.1 hk).1 ?_]
  · exact hk
  · intro e2
    obtain ⟨cs', fz', h2⟩ := hc k e2.symm
    rw [hk] at h2
    cases h2
    exact c rfl

/-- where Book.bools stands -/
structure KB (w0 : World) (B bb : Nat) (q : Int) (lO : Option Nat) (es : List EnB) (VB VW : Value) (LB LW : List Value) (l : Value) (lx : List Bool) (v : Value) (vx : List Bool) (w : World) : Prop where
  hB : B ≤ bb
  hBw : B ≤ w0.heap.size
  bw : Below B w0 w
  hbb : bb < w0.heap.size
  hb : w.heap[bb]? = some (.cells #[.slice none 0 0, .slice none 0 0, .slice none 0 0, VB, VW, .slice none 0 0, .int .i64 q] 56 (0, 0))
  oB : w.ownsRow B 60 1 VB LB.length LB
  oW : w.ownsRow B 60 1 VW LW.length LW
  hBW : ∀ j, VB.ownBlock = some j → VW.ownBlock ≠ some j
  hes : ∀ e ∈ es, EnOk B w e
  fr : FrB bb lO w0 w
  ol : OwnB B w l lx
  ov : OwnB B w v vx
  hll : ∀ j, l.ownBlock = some j → (some j = lO ∧ j < w0.heap.size) ∨ w0.heap.size ≤ j
  hvl : ∀ j, v.ownBlock = some j → w0.heap.size ≤ j
  hlv : ∀ j, l.ownBlock = some j → v.ownBlock ≠ some j
  hdl : ∀ e ∈ es, ∀ j, l.ownBlock = some j → (e.L.ownBlock ≠ some j ∨ e.xs <+: lx) ∧ e.O.ownBlock ≠ some j
  hdv : ∀ e ∈ es, ∀ j, v.ownBlock = some j → e.L.ownBlock ≠ some j ∧ e.O.ownBlock ≠ some j
section
variable {w0 w wa w1 w' : World} {B bb : Nat} {q : Int} {lO : Option Nat} {es : List EnB} {VB VW : Value} {LB LW : List Value} {l : Value} {lx : List Bool} {v : Value} {vx : List Bool}
theorem KB.below (k : KB w0 B bb q lO es VB VW LB LW l lx v vx w) (hb : Below w.heap.size w w') : KB w0 B bb q lO es VB VW LB LW l lx v vx w' :=
  ⟨k.hB, k.hBw, k.bw.trans (hb.mono (Nat.le_trans k.hBw k.bw.size)), k.hbb, belowAt' hb k.hb, own_any k.oB hb, own_any k.oW hb, k.hBW, fun e he => ⟨own_any (k.hes e he).1 hb, own_any (k.hes e he).2 hb⟩, k.fr.below hb, own_any k.ol hb, own_any k.ov hb, k.hll, k.hvl, k.hlv, k.hdl, k.hdv⟩
theorem KB.row {g : Nat} {cs : Array Value} {fz : Nat × Nat} {l' v' : Value} {lx' vx' : List Bool} (k : KB w0 B bb q lO es VB VW LB LW l lx v vx w) (hg : w.grownBy w' (some g)) (hc : w.heap[g]? = some (.cells cs 4 fz)) (hBg : B ≤ g) (hpl : some g = lO ∨ w0.heap.size ≤ g)
    (he : ∀ e ∈ es, EnOk B w' e) (ol : OwnB B w' l' lx') (ov : OwnB B w' v' vx') (hll : ∀ j, l'.ownBlock = some j → (some j = lO ∧ j < w0.heap.size) ∨ w0.heap.size ≤ j) (hvl : ∀ j, v'.ownBlock = some j → w0.heap.size ≤ j) (hlv : ∀ j, l'.ownBlock = some j → v'.ownBlock ≠ some j)
    (hdl : ∀ e ∈ es, ∀ j, l'.ownBlock = some j → (e.L.ownBlock ≠ some j ∨ e.xs <+: lx') ∧ e.O.ownBlock ≠ some j) (hdv : ∀ e ∈ es, ∀ j, v'.ownBlock = some j → e.L.ownBlock ≠ some j ∧ e.O.ownBlock ≠ some j) : KB w0 B bb q lO es VB VW LB LW l' lx' v' vx' w' := by
  have a1 : bb ≠ g := by rintro rfl; rw [k.hb] at hc; cases hc
  have cB : VB.ownBlock ≠ some g := own_kind_ne' k.oB hc (by decide)
  have cW : VW.ownBlock ≠ some g := own_kind_ne' k.oW hc (by decide)
  exact ⟨k.hB, k.hBw, k.bw.grown hg (Nat.le_trans k.hBw k.bw.size) (fun j hj => by cases hj; exact hBg), k.hbb, grownAt k.hb hg a1, k.oB.kept hg (.inr cB), k.oW.kept hg (.inr cW), k.hBW, he, k.fr.row hg (hpl.elim .inl (fun h => .inr (.inl h))), ol, ov, hll, hvl, hlv, hdl, hdv⟩
theorem KB.setl {g n cap : Nat} {lx' : List Bool} (k : KB w0 B bb q lO es VB VW LB LW l lx v vx w) (hl : l = .slice (some ⟨g, 0, none⟩) n cap) (hno : ∀ e ∈ es, e.L.ownBlock ≠ some g ∧ e.O.ownBlock ≠ some g) (hg : w.grownBy w' (some g)) (ol : OwnB B w' l lx') : KB w0 B bb q lO es VB VW LB LW l lx' v vx w' := by
  have hlo : l.ownBlock = some g := by rw [hl]; rfl
  obtain ⟨cs, fz, hc⟩ := Lib.ownsRow_kind k.ol g hlo
  refine k.row hg hc (k.ol.lt g hlo).1 ((k.hll g hlo).elim (fun h => .inl h.1) .inr) (fun e he => ⟨(k.hes e he).1.kept hg (.inr (hno e he).1), (k.hes e he).2.kept hg (.inr (hno e he).2)⟩) ol (k.ov.kept hg (.inr (k.hlv g hlo))) k.hll k.hvl k.hlv (fun e he j hj => ?_) k.hdv
  rw [hlo] at hj
  cases hj
  exact ⟨.inl (hno e he).1, (hno e he).2⟩
theorem KB.pushv {g cap : Nat} {y : Bool} (k0 : KB w0 B bb q lO es VB VW LB LW l lx v vx w) (hb : Below w.heap.size w wa) (ho : w1.ownsRow B 4 1 (.slice (some ⟨g, 0, none⟩) (vx.length + 1) cap) (vx.length + 1) (vx.map Value.bool ++ [.bool y]))
    (hal : (v = .slice (some ⟨g, 0, none⟩) vx.length cap ∧ wa.grownBy w1 (some g)) ∨ (g = wa.heap.size ∧ Below wa.heap.size wa w1)) : KB w0 B bb q lO es VB VW LB LW l lx (.slice (some ⟨g, 0, none⟩) (vx.length + 1) cap) (vx ++ [y]) w1 := by
  have k := k0.below hb
  have ho' : OwnB B w1 (.slice (some ⟨g, 0, none⟩) (vx.length + 1) cap) (vx ++ [y]) := by
    unfold OwnB
    rw [List.length_append, List.map_append]
    exact ho
  rcases hal with ⟨hv, hg⟩ | ⟨hgs, hg⟩
  · have hvo : v.ownBlock = some g := by rw [hv]; rfl
    obtain ⟨cs, fz, hc⟩ := Lib.ownsRow_kind k.ov g hvo
    refine k.row hg hc (k.ov.lt g hvo).1 (.inr (k.hvl g hvo)) (fun e he => ⟨(k.hes e he).1.kept hg (.inr (k.hdv e he g hvo).1), (k.hes e he).2.kept hg (.inr (k.hdv e he g hvo).2)⟩) (k.ol.kept hg (.inr (fun h => k.hlv g h hvo))) ho' k.hll ?_ ?_ k.hdl ?_
    · intro j hj
      cases hj
      exact k.hvl g hvo
    · intro j hj h
      cases h
      exact k.hlv _ hj hvo
    · intro e he j hj
      cases hj
      exact k.hdv e he g hvo
  · have k2 := k.below hg
    have hsz : w0.heap.size ≤ wa.heap.size := k.bw.size
    refine ⟨k2.hB, k2.hBw, k2.bw, k2.hbb, k2.hb, k2.oB, k2.oW, k2.hBW, k2.hes, k2.fr, k2.ol, ho', k2.hll, ?_, ?_, k2.hdl, ?_⟩
    · intro j hj
      cases hj
      show w0.heap.size ≤ g
      omega
    · intro j hj h
      cases h
      have := (k.ol.lt _ hj).2
      simp only at this
      omega
    · intro e he j hj
      cases hj
      refine ⟨fun h => ?_, fun h => ?_⟩
      · have := ((k.hes e he).1.lt _ h).2
        simp only at this
        omega
      · have := ((k.hes e he).2.lt _ h).2
        simp only at this
        omega
theorem KB.pushl {g cap : Nat} {y : Bool} (k0 : KB w0 B bb q lO es VB VW LB LW l lx v vx w) (hb : Below w.heap.size w wa) (ho : w1.ownsRow B 4 1 (.slice (some ⟨g, 0, none⟩) (lx.length + 1) cap) (lx.length + 1) (lx.map Value.bool ++ [.bool y]))
    (hal : (l = .slice (some ⟨g, 0, none⟩) lx.length cap ∧ wa.grownBy w1 (some g)) ∨ (g = wa.heap.size ∧ Below wa.heap.size wa w1)) : KB w0 B bb q lO es VB VW LB LW (.slice (some ⟨g, 0, none⟩) (lx.length + 1) cap) (lx ++ [y]) v vx w1 := by
  have k := k0.below hb
  have ho' : OwnB B w1 (.slice (some ⟨g, 0, none⟩) (lx.length + 1) cap) (lx ++ [y]) := by
    unfold OwnB
    rw [List.length_append, List.map_append]
    exact ho
  rcases hal with ⟨hv, hg⟩ | ⟨hgs, hg⟩
  · have hvo : l.ownBlock = some g := by rw [hv]; rfl
    obtain ⟨cs, fz, hc⟩ := Lib.ownsRow_kind k.ol g hvo
    refine k.row hg hc (k.ol.lt g hvo).1 ((k.hll g hvo).elim (fun h => .inl h.1) .inr) (fun e he => ⟨?_, (k.hes e he).2.kept hg (.inr (k.hdl e he g hvo).2)⟩) ho' (k.ov.kept hg (.inr (k.hlv g hvo))) ?_ k.hvl ?_ ?_ k.hdv
    · by_cases hh : e.L.ownBlock = some g
      · have hp := (k.hdl e he g hvo).1.resolve_left (fun h => h hh)
        have oX := k.ol
        unfold OwnB at oX
        rw [hv] at oX
        have hE := (k.hes e he).1
        unfold OwnB at hE
        refine own_prefix (by decide) hE hh oX ho ?_ ?_
        · have := hp.length_le
          omega
        · obtain ⟨ys, rfl⟩ := hp
          rw [Nat.mul_one, List.map_append, List.append_assoc, ← List.length_map (f := Value.bool)]
          exact List.take_left
      · exact (k.hes e he).1.kept hg (.inr hh)
    · intro j hj
      cases hj
      exact k.hll g hvo
    · intro j hj
      cases hj
      exact k.hlv g hvo
    · intro e he j hj
      cases hj
      have := k.hdl e he g hvo
      exact ⟨this.1.elim .inl (fun h => .inr (h.trans (List.prefix_append _ _))), this.2⟩
  · have k2 := k.below hg
    have hsz : w0.heap.size ≤ wa.heap.size := k.bw.size
    refine ⟨k2.hB, k2.hBw, k2.bw, k2.hbb, k2.hb, k2.oB, k2.oW, k2.hBW, k2.hes, k2.fr, ho', k2.ov, ?_, k2.hvl, ?_, ?_, k2.hdv⟩
    · intro j hj
      cases hj
      exact .inr (show w0.heap.size ≤ g by omega)
    · intro j hj h
      cases hj
      have := (k.ov.lt _ h).2
      simp only at this
      omega
    · intro e he j hj
      cases hj
      refine ⟨.inl (fun h => ?_), fun h => ?_⟩
      · have := ((k.hes e he).1.lt _ h).2
        simp only at this
        omega
      · have := ((k.hes e he).2.lt _ h).2
        simp only at this
        omega
/-- the list as it lies now stands in the book, with its owner's copy -/
theorem KB.entry {o : Value} (k : KB w0 B bb q lO es VB VW LB LW l lx v vx w) (oo : OwnB B w o lx) (hol : ∀ j, o.ownBlock = some j → l.ownBlock ≠ some j ∧ v.ownBlock ≠ some j) : KB w0 B bb q lO (es ++ [⟨lx, l, o⟩]) VB VW LB LW l lx v vx w := by
  refine ⟨k.hB, k.hBw, k.bw, k.hbb, k.hb, k.oB, k.oW, k.hBW, ?_, k.fr, k.ol, k.ov, k.hll, k.hvl, k.hlv, ?_, ?_⟩
  · intro e he
    rcases List.mem_append.1 he with he | he
    · exact k.hes e he
    · rw [List.mem_singleton.1 he]
      exact ⟨k.ol, oo⟩
  · intro e he j hj
    rcases List.mem_append.1 he with he | he
    · exact k.hdl e he j hj
    · rw [List.mem_singleton.1 he]
      exact ⟨.inr (List.prefix_refl _), fun h => (hol j h).1 hj⟩
  · intro e he j hj
    rcases List.mem_append.1 he with he | he
    · exact k.hdv e he j hj
    · rw [List.mem_singleton.1 he]
      exact ⟨fun h => k.hlv j h hj, fun h => (hol j h).2 hj⟩
/-- a row of lists grows by one -/
theorem KB.grow {row : Option Nat} {VX VY : Value} {LX LY : List Value} {i : Nat} {x : Value} (k : KB w0 B bb q lO es VB VW LB LW l lx v vx w) (hg : w.grownBy w1 row) (hr : ∀ g, row = some g → B ≤ g ∧ ∃ cs fz, w.heap[g]? = some (.cells cs 60 fz)) (hn : ∀ j, VX.ownBlock = some j → VY.ownBlock ≠ some j)
    (oX : w1.ownsRow B 60 1 VX LX.length LX) (oY : w1.ownsRow B 60 1 VY LY.length LY)
    (hset : w1.heap[bb]? = some (.cells #[.slice none 0 0, .slice none 0 0, .slice none 0 0, VB, VW, .slice none 0 0, .int .i64 q] 56 (0, 0)) → (w1.setCell ⟨bb, i, none⟩ x).heap[bb]? = some (.cells #[.slice none 0 0, .slice none 0 0, .slice none 0 0, VX, VY, .slice none 0 0, .int .i64 q] 56 (0, 0))) :
    w1.heap[bb]? = some (.cells #[.slice none 0 0, .slice none 0 0, .slice none 0 0, VB, VW, .slice none 0 0, .int .i64 q] 56 (0, 0)) ∧ KB w0 B bb q lO es VX VY LX LY l lx v vx (w1.setCell ⟨bb, i, none⟩ x) := by
  have hb1 : w1.heap[bb]? = some (.cells #[.slice none 0 0, .slice none 0 0, .slice none 0 0, VB, VW, .slice none 0 0, .int .i64 q] 56 (0, 0)) := by
    rw [hg.block bb (Array.getElem?_eq_some_iff.1 k.hb).1 ?_]
    · exact k.hb
    · intro e
      obtain ⟨_, cs, fz, h⟩ := hr bb e.symm
      rw [k.hb] at h
      cases h
  refine ⟨hb1, ?_⟩
  have gs : w1.grownBy (w1.setCell ⟨bb, i, none⟩ x) (some bb) := grown_set (World.grownBy.refl _ _) _ _
  have far : ∀ {z : Value} {zs : List Bool}, OwnB B w z zs → OwnB B (w1.setCell ⟨bb, i, none⟩ x) z zs := by
    intro z zs h
    have h1 : w1.ownsRow B 4 1 z zs.length (zs.map Value.bool) := by
      refine h.kept hg ?_
      cases hz : z.ownBlock with
      | none => exact .inl rfl
      | some j =>
        refine .inr ?_
        intro e
        obtain ⟨_, cs, fz, h2⟩ := hr j e.symm
        obtain ⟨c, fz', h3⟩ := Lib.ownsRow_kind h j hz
        rw [h2] at h3
        cases h3
    exact h1.kept gs (.inr (own_kind_ne' h1 hb1 (by decide)))
  refine ⟨k.hB, k.hBw, (k.bw.grown hg (Nat.le_trans k.hBw k.bw.size) (fun j hj => (hr j hj).1)).grown gs (Nat.le_trans (Nat.le_trans k.hBw k.bw.size) hg.size) (fun j hj => by cases hj; exact k.hB), k.hbb, hset hb1, oX.kept gs (.inr (own_kind_ne' oX hb1 (by decide))), oY.kept gs (.inr (own_kind_ne' oY hb1 (by decide))), hn, fun e he => ⟨far (k.hes e he).1, far (k.hes e he).2⟩, (k.fr.kind hg (fun g e => (hr g e).2)).row gs (.inr (.inr rfl)), far k.ol, far k.ov, k.hll, k.hvl, k.hlv, k.hdl, k.hdv⟩
theorem row_kept {X Y : Value} {nX nY : Nat} {xs ys : List Value} (oX : wa.ownsRow B 60 1 X nX xs) (oY : wa.ownsRow B 60 1 Y nY ys) (hn : ∀ j, X.ownBlock = some j → Y.ownBlock ≠ some j) {g cap : Nat}
    (hal : (X = .slice (some ⟨g, 0, none⟩) nX cap ∧ wa.grownBy w1 (some g)) ∨ (g = wa.heap.size ∧ Below wa.heap.size wa w1)) :
    ∃ row, wa.grownBy w1 row ∧ (∀ j, row = some j → B ≤ j ∧ ∃ cs fz, wa.heap[j]? = some (.cells cs 60 fz)) ∧ w1.ownsRow B 60 1 Y nY ys ∧ Y.ownBlock ≠ some g := by
  rcases hal with ⟨hv, hg⟩ | ⟨hgs, hg⟩
  · have hvo : X.ownBlock = some g := by rw [hv]; rfl
    obtain ⟨cs, fz, hc⟩ := Lib.ownsRow_kind oX g hvo
    exact ⟨some g, hg, fun j hj => by cases hj; exact ⟨(oX.lt g hvo).1, cs, fz, hc⟩, oY.kept hg (.inr (hn g hvo)), hn g hvo⟩
  · refine ⟨none, grown_below _ hg, fun j hj => (by cases hj), own_any oY hg, fun h => ?_⟩
    have := (oY.lt _ h).2
    omega
theorem KB.pushB {g cap : Nat} {x : Value} (k0 : KB w0 B bb q lO es VB VW LB LW l lx v vx w) (hb : Below w.heap.size w wa) (ho : w1.ownsRow B 60 1 (.slice (some ⟨g, 0, none⟩) (LB.length + 1) cap) (LB.length + 1) (LB ++ [x]))
    (hal : (VB = .slice (some ⟨g, 0, none⟩) LB.length cap ∧ wa.grownBy w1 (some g)) ∨ (g = wa.heap.size ∧ Below wa.heap.size wa w1)) :
    w1.heap[bb]? = some (.cells #[.slice none 0 0, .slice none 0 0, .slice none 0 0, VB, VW, .slice none 0 0, .int .i64 q] 56 (0, 0)) ∧ KB w0 B bb q lO es (.slice (some ⟨g, 0, none⟩) (LB.length + 1) cap) VW (LB ++ [x]) LW l lx v vx (w1.setCell ⟨bb, 3, none⟩ (.slice (some ⟨g, 0, none⟩) (LB.length + 1) cap)) := by
  have k := k0.below hb
  obtain ⟨row, hg, hr, oY, hne⟩ := row_kept k.oB k.oW k.hBW hal
  refine k.grow hg hr (fun j hj => by cases hj; exact hne) (by rw [List.length_append]; exact ho) oY (fun h => setCell_row h _)
theorem KB.pushW {g cap : Nat} {x : Value} (k0 : KB w0 B bb q lO es VB VW LB LW l lx v vx w) (hb : Below w.heap.size w wa) (ho : w1.ownsRow B 60 1 (.slice (some ⟨g, 0, none⟩) (LW.length + 1) cap) (LW.length + 1) (LW ++ [x]))
    (hal : (VW = .slice (some ⟨g, 0, none⟩) LW.length cap ∧ wa.grownBy w1 (some g)) ∨ (g = wa.heap.size ∧ Below wa.heap.size wa w1)) :
    w1.heap[bb]? = some (.cells #[.slice none 0 0, .slice none 0 0, .slice none 0 0, VB, VW, .slice none 0 0, .int .i64 q] 56 (0, 0)) ∧ KB w0 B bb q lO es VB (.slice (some ⟨g, 0, none⟩) (LW.length + 1) cap) LB (LW ++ [x]) l lx v vx (w1.setCell ⟨bb, 4, none⟩ (.slice (some ⟨g, 0, none⟩) (LW.length + 1) cap)) := by
  have k := k0.below hb
  obtain ⟨row, hg, hr, oY, hne⟩ := row_kept k.oW k.oB (fun j h h2 => k.hBW j h2 h) hal
  refine k.grow hg hr (fun j hj h => by cases h; exact hne hj) oY (by rw [List.length_append]; exact ho) (fun h => setCell_row h _)
end
end Go.Proofs.YteibjmlimcpaoaaGreatDoor
