/-
  What package look's nameOf answers: as the plain program says; nothing but the meter turns.
  What package look's name.told answers: a name as it is told, its text read; nothing but the meter turns.
  What package look's names.told answers: the names as they are told, in new memory; nothing but the meter turns.
  What package look's open answers: a file's tables, as the plain program says; nothing but the meter turns.
-/
import Derived.Test.YteibjmlimcpaoaaGreatDoorWd
import Derived.Deep.RegionHeld3
import Derived.Test.YteibjmlimcpaoaaGreatDoorPa
import Derived.Test.YteibjmlimcpaoaaGreatDoorTa
import Derived.Test.YteibjmlimcpaoaaGreatDoorEa
set_option linter.unusedVariables false
set_option linter.unusedSimpArgs false
namespace Go.Proofs.YteibjmlimcpaoaaGreatDoor.W
open Go.RowKit Go.Sort

/-- a name as a value, its text not yet read -/
def nv (p : Nat) (x : Nw) : Value := .agg #[.int .i64 x.pl, .int .i64 x.en, .int .i64 x.la, .int .i64 x.id, .int .i64 x.st, .int .i64 0, .string ⟨#[]⟩, .pointer (some ⟨p, 0, none⟩), .int .i64 x.v.b, .int .i64 x.v.s]
theorem name_run (D : List UInt8) (P : Pol) (t : Wn) (texts : Nat) (r : Wn) (m m1 m2 m3 m4 m5 m6 : Mt) (pl en la id size at_ : Nat) (h1 : (r.two 0).run D m = (pl, m1)) (h2 : (r.two 2).run D m1 = (en, m2)) (h3 : (r.two 4).run D m2 = (la, m3)) (h4 : (r.two 6).run D m3 = (id, m4)) (h5 : (r.two 8).run D m4 = (size, m5)) (h6 : (r.two 10).run D m5 = (at_, m6)) :
    (nameP P t texts r).run D m = (⟨pl, en, la, id, if P.ids.contains (id : Int) then 4 else if holdsB t.s (texts + at_) size = true then 0 else 2, t.cut (texts + at_) size⟩, m6) := by
  unfold nameP
  rw [Pr.run_bind, h1]
  simp only
  rw [Pr.run_bind, h2]
  simp only
  rw [Pr.run_bind, h3]
  simp only
  rw [Pr.run_bind, h4]
  simp only
  rw [Pr.run_bind, h5]
  simp only
  rw [Pr.run_bind, h6]
  rfl

/-- where a statement stands that makes a name and reads numbers: has its block been laid -/
structure Nx (W : World) (p : Nat) (m : Mt) (D : List UInt8) (k : Option Nat) (w : World) : Prop where
  g : W.grownBy w (some p)
  f : FlAt p m D w
  b : ∀ j, k = some j → W.heap.size ≤ j ∧ w.heap[j]? = some (.cells #[.int .i64 0, .int .i64 0, .int .i64 0, .int .i64 0, .int .i64 0, .int .i64 0, .string ⟨#[]⟩] 72 (0, 0))
section
variable {W w w' : World} {p : Nat} {m m' : Mt} {D : List UInt8} {k : Option Nat}
theorem Nx.start (h : FlAt p m D W) : Nx W p m D none W := ⟨World.grownBy.refl _ _, h, fun _ e => by cases e⟩
theorem Nx.drew (h : Nx W p m D k w) : Nx W p m D k w.drew := ⟨⟨h.g.os, h.g.tape, h.g.output, h.g.size, h.g.block⟩, h.f, h.b⟩
theorem Nx.alloc (h : Nx W p m D none w) : Nx W p m D (some w.heap.size) (w.alloc (.cells #[.int .i64 0, .int .i64 0, .int .i64 0, .int .i64 0, .int .i64 0, .int .i64 0, .string ⟨#[]⟩] 72)) :=
  ⟨grown_trans h.g (World.grownBy_alloc _ _ _), fl_alloc h.f _, fun j e => by cases e; exact ⟨h.g.size, new_at _ _⟩⟩
theorem Nx.allocD (h : Nx W p m D none w) : Nx W p m D (some w.heap.size) (w.drew.alloc (.cells #[.int .i64 0, .int .i64 0, .int .i64 0, .int .i64 0, .int .i64 0, .int .i64 0, .string ⟨#[]⟩] 72)) := h.drew.alloc
theorem Nx.call (h : Nx W p m D k w) (hp : p < W.heap.size) (g : w.grownBy w' (some p)) (f : FlAt p m' D w') : Nx W p m' D k w' :=
  ⟨grown_trans h.g g, f, fun j e => ⟨(h.b j e).1, grown_at g (h.b j e).2 (by have := (h.b j e).1; omega)⟩⟩
theorem Nx.set7 {kk : Nat} (h : Nx W p m D (some kk) w) (hp : p < W.heap.size) (v0 v1 v2 v3 v4 v5 v6 : Value) :
    W.grownBy (((((((w.setCell ⟨kk, 0, none⟩ v0).setCell ⟨kk, 1, none⟩ v1).setCell ⟨kk, 2, none⟩ v2).setCell ⟨kk, 3, none⟩ v3).setCell ⟨kk, 4, none⟩ v4).setCell ⟨kk, 5, none⟩ v5).setCell ⟨kk, 6, none⟩ v6) (some p) ∧ FlAt p m D (((((((w.setCell ⟨kk, 0, none⟩ v0).setCell ⟨kk, 1, none⟩ v1).setCell ⟨kk, 2, none⟩ v2).setCell ⟨kk, 3, none⟩ v3).setCell ⟨kk, 4, none⟩ v4).setCell ⟨kk, 5, none⟩ v5).setCell ⟨kk, 6, none⟩ v6) ∧
    (((((((w.setCell ⟨kk, 0, none⟩ v0).setCell ⟨kk, 1, none⟩ v1).setCell ⟨kk, 2, none⟩ v2).setCell ⟨kk, 3, none⟩ v3).setCell ⟨kk, 4, none⟩ v4).setCell ⟨kk, 5, none⟩ v5).setCell ⟨kk, 6, none⟩ v6).heap[kk]? = some (.cells #[v0, v1, v2, v3, v4, v5, v6] 72 (0, 0)) := by
  obtain ⟨hk, hb⟩ := h.b kk rfl
  have q := setCell_row (i := 6) (setCell_row (i := 5) (setCell_row (i := 4) (setCell_row (i := 3) (setCell_row (i := 2) (setCell_row (i := 1) (setCell_row (i := 0) hb v0) v1) v2) v3) v4) v5) v6
  have gs : w.grownBy (((((((w.setCell ⟨kk, 0, none⟩ v0).setCell ⟨kk, 1, none⟩ v1).setCell ⟨kk, 2, none⟩ v2).setCell ⟨kk, 3, none⟩ v3).setCell ⟨kk, 4, none⟩ v4).setCell ⟨kk, 5, none⟩ v5).setCell ⟨kk, 6, none⟩ v6) (some kk) := grown_set (grown_set (grown_set (grown_set (grown_set (grown_set (grown_set (World.grownBy.refl _ _) _ _) _ _) _ _) _ _) _ _) _ _) _ _
  exact ⟨grown_row h.g gs (fun j hj => by cases hj; exact hk), grown_at gs h.f (by omega), q⟩
end
/-- ten cells of a result, written behind one another -/
theorem end10 {w w1 : World} {p k : Nat} {m : Mt} {D : List UInt8} {x0 x1 x2 x3 x4 x5 x6 x7 x8 x9 : Value} (v0 v1 v2 v3 v4 v5 v6 v7 v8 v9 : Value) {T : TypeId} (q : w1.heap[k]? = some (.cells #[x0, x1, x2, x3, x4, x5, x6, x7, x8, x9] T (0, 0))) (hk : w.heap.size ≤ k) (hpk : p ≠ k) (hf : FlAt p m D w1) (g : w.grownBy w1 (some p)) :
    ((((((((((w1.setCell ⟨k, 0, none⟩ v0).setCell ⟨k, 1, none⟩ v1).setCell ⟨k, 2, none⟩ v2).setCell ⟨k, 3, none⟩ v3).setCell ⟨k, 4, none⟩ v4).setCell ⟨k, 5, none⟩ v5).setCell ⟨k, 6, none⟩ v6).setCell ⟨k, 7, none⟩ v7).setCell ⟨k, 8, none⟩ v8).setCell ⟨k, 9, none⟩ v9).heap[k]? = some (.cells #[v0, v1, v2, v3, v4, v5, v6, v7, v8, v9] T (0, 0)) ∧ FlAt p m D ((((((((((w1.setCell ⟨k, 0, none⟩ v0).setCell ⟨k, 1, none⟩ v1).setCell ⟨k, 2, none⟩ v2).setCell ⟨k, 3, none⟩ v3).setCell ⟨k, 4, none⟩ v4).setCell ⟨k, 5, none⟩ v5).setCell ⟨k, 6, none⟩ v6).setCell ⟨k, 7, none⟩ v7).setCell ⟨k, 8, none⟩ v8).setCell ⟨k, 9, none⟩ v9) ∧ w.grownBy ((((((((((w1.setCell ⟨k, 0, none⟩ v0).setCell ⟨k, 1, none⟩ v1).setCell ⟨k, 2, none⟩ v2).setCell ⟨k, 3, none⟩ v3).setCell ⟨k, 4, none⟩ v4).setCell ⟨k, 5, none⟩ v5).setCell ⟨k, 6, none⟩ v6).setCell ⟨k, 7, none⟩ v7).setCell ⟨k, 8, none⟩ v8).setCell ⟨k, 9, none⟩ v9) (some p) := by
  have q100 : (w1.setCell ⟨k, 0, none⟩ v0).heap[k]? = some (.cells #[v0, x1, x2, x3, x4, x5, x6, x7, x8, x9] T (0, 0)) := setCell_row q v0
  have q101 : ((w1.setCell ⟨k, 0, none⟩ v0).setCell ⟨k, 1, none⟩ v1).heap[k]? = some (.cells #[v0, v1, x2, x3, x4, x5, x6, x7, x8, x9] T (0, 0)) := setCell_row q100 v1
  have q102 : (((w1.setCell ⟨k, 0, none⟩ v0).setCell ⟨k, 1, none⟩ v1).setCell ⟨k, 2, none⟩ v2).heap[k]? = some (.cells #[v0, v1, v2, x3, x4, x5, x6, x7, x8, x9] T (0, 0)) := setCell_row q101 v2
  have q103 : ((((w1.setCell ⟨k, 0, none⟩ v0).setCell ⟨k, 1, none⟩ v1).setCell ⟨k, 2, none⟩ v2).setCell ⟨k, 3, none⟩ v3).heap[k]? = some (.cells #[v0, v1, v2, v3, x4, x5, x6, x7, x8, x9] T (0, 0)) := setCell_row q102 v3
  have q104 : (((((w1.setCell ⟨k, 0, none⟩ v0).setCell ⟨k, 1, none⟩ v1).setCell ⟨k, 2, none⟩ v2).setCell ⟨k, 3, none⟩ v3).setCell ⟨k, 4, none⟩ v4).heap[k]? = some (.cells #[v0, v1, v2, v3, v4, x5, x6, x7, x8, x9] T (0, 0)) := setCell_row q103 v4
  have q105 : ((((((w1.setCell ⟨k, 0, none⟩ v0).setCell ⟨k, 1, none⟩ v1).setCell ⟨k, 2, none⟩ v2).setCell ⟨k, 3, none⟩ v3).setCell ⟨k, 4, none⟩ v4).setCell ⟨k, 5, none⟩ v5).heap[k]? = some (.cells #[v0, v1, v2, v3, v4, v5, x6, x7, x8, x9] T (0, 0)) := setCell_row q104 v5
  have q106 : (((((((w1.setCell ⟨k, 0, none⟩ v0).setCell ⟨k, 1, none⟩ v1).setCell ⟨k, 2, none⟩ v2).setCell ⟨k, 3, none⟩ v3).setCell ⟨k, 4, none⟩ v4).setCell ⟨k, 5, none⟩ v5).setCell ⟨k, 6, none⟩ v6).heap[k]? = some (.cells #[v0, v1, v2, v3, v4, v5, v6, x7, x8, x9] T (0, 0)) := setCell_row q105 v6
  have q107 : ((((((((w1.setCell ⟨k, 0, none⟩ v0).setCell ⟨k, 1, none⟩ v1).setCell ⟨k, 2, none⟩ v2).setCell ⟨k, 3, none⟩ v3).setCell ⟨k, 4, none⟩ v4).setCell ⟨k, 5, none⟩ v5).setCell ⟨k, 6, none⟩ v6).setCell ⟨k, 7, none⟩ v7).heap[k]? = some (.cells #[v0, v1, v2, v3, v4, v5, v6, v7, x8, x9] T (0, 0)) := setCell_row q106 v7
  have q108 : (((((((((w1.setCell ⟨k, 0, none⟩ v0).setCell ⟨k, 1, none⟩ v1).setCell ⟨k, 2, none⟩ v2).setCell ⟨k, 3, none⟩ v3).setCell ⟨k, 4, none⟩ v4).setCell ⟨k, 5, none⟩ v5).setCell ⟨k, 6, none⟩ v6).setCell ⟨k, 7, none⟩ v7).setCell ⟨k, 8, none⟩ v8).heap[k]? = some (.cells #[v0, v1, v2, v3, v4, v5, v6, v7, v8, x9] T (0, 0)) := setCell_row q107 v8
  have q109 : ((((((((((w1.setCell ⟨k, 0, none⟩ v0).setCell ⟨k, 1, none⟩ v1).setCell ⟨k, 2, none⟩ v2).setCell ⟨k, 3, none⟩ v3).setCell ⟨k, 4, none⟩ v4).setCell ⟨k, 5, none⟩ v5).setCell ⟨k, 6, none⟩ v6).setCell ⟨k, 7, none⟩ v7).setCell ⟨k, 8, none⟩ v8).setCell ⟨k, 9, none⟩ v9).heap[k]? = some (.cells #[v0, v1, v2, v3, v4, v5, v6, v7, v8, v9] T (0, 0)) := setCell_row q108 v9
  have gs : w1.grownBy ((((((((((w1.setCell ⟨k, 0, none⟩ v0).setCell ⟨k, 1, none⟩ v1).setCell ⟨k, 2, none⟩ v2).setCell ⟨k, 3, none⟩ v3).setCell ⟨k, 4, none⟩ v4).setCell ⟨k, 5, none⟩ v5).setCell ⟨k, 6, none⟩ v6).setCell ⟨k, 7, none⟩ v7).setCell ⟨k, 8, none⟩ v8).setCell ⟨k, 9, none⟩ v9) (some k) := (grown_set (grown_set (grown_set (grown_set (grown_set (grown_set (grown_set (grown_set (grown_set (grown_set (World.grownBy.refl _ _) _ _) _ _) _ _) _ _) _ _) _ _) _ _) _ _) _ _) _ _)
  exact ⟨q109, grown_at gs hf hpk, grown_row g gs (fun j hj => by cases hj; exact hk)⟩
set_option maxRecDepth 100000 in
set_option maxHeartbeats 4000000 in
theorem nameW (p texts : Nat) (t r : Wn) (P : Pol) (T I : Value) (m : Mt) (D : List UInt8) (w : World) (h8 : P.ids.length ≤ 8) (htx : texts < 65536) (ht : InF t D) (hr : InF r D) (hm : MOk m) (h : FlAt p m D w) (he : En P T I p w) (x : Nw) (M : Mt) (hrun : (nameP P t texts r).run D m = (x, M)) :
    Calls Tryz.prog 99 #[pv T I P.text, wv p t, .int .i64 (texts : Int), wv p r] w fun e w' => e = .returned (nv p x) ∧ FlAt p M D w' ∧ w.grownBy w' (some p) := by
  have hlt := fl_lt h
  obtain ⟨pl, m1, h1⟩ : ∃ x y, (r.two 0).run D m = (x, y) := ⟨_, _, rfl⟩
  obtain ⟨en, m2, h2⟩ : ∃ x y, (r.two 2).run D m1 = (x, y) := ⟨_, _, rfl⟩
  obtain ⟨la, m3, h3⟩ : ∃ x y, (r.two 4).run D m2 = (x, y) := ⟨_, _, rfl⟩
  obtain ⟨id, m4, h4⟩ : ∃ x y, (r.two 6).run D m3 = (x, y) := ⟨_, _, rfl⟩
  obtain ⟨size, m5, h5⟩ : ∃ x y, (r.two 8).run D m4 = (x, y) := ⟨_, _, rfl⟩
  obtain ⟨at_, m6, h6⟩ : ∃ x y, (r.two 10).run D m5 = (x, y) := ⟨_, _, rfl⟩
  rw [name_run D P t texts r m m1 m2 m3 m4 m5 m6 pl en la id size at_ h1 h2 h3 h4 h5 h6] at hrun
  cases hrun
  obtain ⟨S, hS⟩ : ∃ S, (if P.ids.contains (id : Int) then 4 else if holdsB t.s (texts + at_) size = true then 0 else 2) = S := ⟨_, rfl⟩
  rw [hS]
  have HSt := Lib.hid hS
  clear hS
  have mk1 : MOk m1 := by have := MOk.run D (r.two 0) hm; rw [h1] at this; exact this
  have mk2 : MOk m2 := by have := MOk.run D (r.two 2) mk1; rw [h2] at this; exact this
  have mk3 : MOk m3 := by have := MOk.run D (r.two 4) mk2; rw [h3] at this; exact this
  have mk4 : MOk m4 := by have := MOk.run D (r.two 6) mk3; rw [h4] at this; exact this
  have mk5 : MOk m5 := by have := MOk.run D (r.two 8) mk4; rw [h5] at this; exact this
  have b5 : size < 65536 := by have := two_lt D r 8 m4; rw [h5] at this; exact this
  have b6 : at_ < 65536 := by have := two_lt D r 10 m5; rw [h6] at this; exact this
  have B1 := Lib.hid (fun w f => twoW p 0 r m D w (by omega) hr hm f)
  have B2 := Lib.hid (fun w f => twoW p 2 r m1 D w (by omega) hr mk1 f)
  have B3 := Lib.hid (fun w f => twoW p 4 r m2 D w (by omega) hr mk2 f)
  have B4 := Lib.hid (fun w f => twoW p 6 r m3 D w (by omega) hr mk3 f)
  have B5 := Lib.hid (fun w f => twoW p 8 r m4 D w (by omega) hr mk4 f)
  have B6 := Lib.hid (fun w f => twoW p 10 r m5 D w (by omega) hr mk5 f)
  rw [h1] at B1
  rw [h2] at B2
  rw [h3] at B3
  rw [h4] at B4
  rw [h5] at B5
  rw [h6] at B6
  simp only at B1 B2 B3 B4 B5 B6
  have C1 := Lib.hid (fun w h => hasIntW P.ids (id : Int) I w h8 h)
  have C2 := Lib.hid (fun w => tholdsW (some ⟨p, 0, none⟩) t (texts + at_) size w ht.s (by omega) (by omega))
  have C3 := Lib.hid (fun w => twinW (some ⟨p, 0, none⟩) t (texts + at_) size w ht.b ht.s (by omega) (by omega))
  have hs1 := he.pol.tags
  have hs2 := he.pol.ids
  obtain ⟨ta, tc, hTe, _⟩ := hs1
  obtain ⟨ia, ic, hIe, _⟩ := hs2
  obtain ⟨J, hJ⟩ : ∃ J : Int, ((texts + at_ : Nat) : Int) = J := ⟨_, rfl⟩
  have wJ : IntKind.i64.wrap J = J := wrapL _ (by omega) (by omega)
  have wJ2 : wrap64 J = J := by unfold wrap64; omega
  have nJ : (texts : Int) + (at_ : Int) = J := by omega
  have hJ0 : 0 ≤ J := by omega
  rw [hJ] at C2 C3
  clear h1 h2 h3 h4 h5 h6 hJ htx b5 b6
  subst hTe hIe
  obtain ⟨W, hW⟩ : ∃ W, (((w.alloc (.cells #[.slice ta P.tags.length tc, .slice ia P.ids.length ic, .int .i64 P.text] 25)).alloc (.cells #[.pointer (some ⟨p, 0, none⟩), .int .i64 (t.b : Int), .int .i64 (t.s : Int)] 126)).alloc (.cells #[.pointer (some ⟨p, 0, none⟩), .int .i64 (r.b : Int), .int .i64 (r.s : Int)] 126)).alloc (.cells #[.int .i64 0, .int .i64 0, .int .i64 0, .int .i64 0, .int .i64 0, .int .i64 0, .string ⟨#[]⟩, .pointer none, .int .i64 0, .int .i64 0] 170) = W := ⟨_, rfl⟩
  have hbW : Below w.heap.size w W := by rw [← hW]; exact (((below_alloc _ _).alloc (by simp) _).alloc (by simp; omega) _).alloc (by simp; omega) _
  have gW : w.grownBy W (some p) := grown_below _ hbW
  have fW : FlAt p m D W := fl_below h hbW
  have eW := he.grow gW
  have n0 : W.heap[w.heap.size]? = some (.cells #[.slice ta P.tags.length tc, .slice ia P.ids.length ic, .int .i64 P.text] 25 (0, 0)) := by rw [← hW]; exact at_alloc (at_alloc (at_alloc (new_at _ _)))
  have n1 : W.heap[w.heap.size + 1]? = some (.cells #[.pointer (some ⟨p, 0, none⟩), .int .i64 (t.b : Int), .int .i64 (t.s : Int)] 126 (0, 0)) := by rw [← hW]; refine at_alloc (at_alloc ?_); have := new_at (w.alloc (.cells #[.slice ta P.tags.length tc, .slice ia P.ids.length ic, .int .i64 P.text] 25)) (.cells #[.pointer (some ⟨p, 0, none⟩), .int .i64 (t.b : Int), .int .i64 (t.s : Int)] 126); simpa using this
  have n2 : W.heap[w.heap.size + 2]? = some (.cells #[.pointer (some ⟨p, 0, none⟩), .int .i64 (r.b : Int), .int .i64 (r.s : Int)] 126 (0, 0)) := by rw [← hW]; refine at_alloc ?_; have := new_at ((w.alloc (.cells #[.slice ta P.tags.length tc, .slice ia P.ids.length ic, .int .i64 P.text] 25)).alloc (.cells #[.pointer (some ⟨p, 0, none⟩), .int .i64 (t.b : Int), .int .i64 (t.s : Int)] 126)) (.cells #[.pointer (some ⟨p, 0, none⟩), .int .i64 (r.b : Int), .int .i64 (r.s : Int)] 126); simpa using this
  have n3 : W.heap[w.heap.size + 3]? = some (.cells #[.int .i64 0, .int .i64 0, .int .i64 0, .int .i64 0, .int .i64 0, .int .i64 0, .string ⟨#[]⟩, .pointer none, .int .i64 0, .int .i64 0] 170 (0, 0)) := by rw [← hW]; have := new_at (((w.alloc (.cells #[.slice ta P.tags.length tc, .slice ia P.ids.length ic, .int .i64 P.text] 25)).alloc (.cells #[.pointer (some ⟨p, 0, none⟩), .int .i64 (t.b : Int), .int .i64 (t.s : Int)] 126)).alloc (.cells #[.pointer (some ⟨p, 0, none⟩), .int .i64 (r.b : Int), .int .i64 (r.s : Int)] 126)) (.cells #[.int .i64 0, .int .i64 0, .int .i64 0, .int .i64 0, .int .i64 0, .int .i64 0, .string ⟨#[]⟩, .pointer none, .int .i64 0, .int .i64 0] 170); simpa using this
  have y0 := cellsAt n2 0
  have y1 := cellsAt n2 1
  have y2 := cellsAt n2 2
  simp only [List.getElem?_toArray, List.getElem?_cons_zero, List.getElem?_cons_succ] at y0 y1 y2
  unfold wq at C2 C3
  unfold wv at B1 B2 B3 B4 B5 B6 ⊢
  unfold pv
  have hne2 : w.heap.size + 2 ≠ p := by omega
  clear h hbW
  have HN := Lib.hid (And.intro n0 (And.intro n1 (And.intro n2 n3)))
  have HE := Lib.hid eW
  clear n0 n1 n3 eW he
  go_enter Tryz.func99, Tryz.ntmps99
  go_upto_region 1 with fail
  go_cut [9] (fun s9 wx => ∃ k : Nat, s9 = .pointer (some ⟨k, 0, none⟩) ∧ W.heap.size ≤ k ∧ W.grownBy wx (some p) ∧ FlAt p m4 D wx ∧ wx.heap[k]? = some (.cells #[.int .i64 (pl : Int), .int .i64 (en : Int), .int .i64 (la : Int), .int .i64 (id : Int), .int .i64 0, .int .i64 0, .string ⟨#[]⟩] 72 (0, 0)))
  case first =>
    have hpW : p < W.heap.size := fl_lt fW
    have N0 := Nx.start fW
    have sW4 : W.heap.size = w.heap.size + 4 := by rw [← hW]; simp
    have hne8 : ∀ j, W.heap.size ≤ j → ¬ (j = w.heap.size + 2) := fun j a b => by omega
    have hne9 : ∀ j, W.heap.size ≤ j → ¬ (w.heap.size + 2 = j) := fun j a b => by omega
    clear sW4
    go_region_held3 (fun w' => w'.cell? ⟨w.heap.size + 2, 0, none⟩ = some (.pointer (some ⟨p, 0, none⟩)) ∧ w'.cell? ⟨w.heap.size + 2, 1, none⟩ = some (.int .i64 (r.b : Int)) ∧ w'.cell? ⟨w.heap.size + 2, 2, none⟩ = some (.int .i64 (r.s : Int))) (go_keep) (first
      | (go_at_call_of 95 (Value.int IntKind.i64 6); refine (B4.out _ ?_).mono ?_; exact (N3).f; rintro e w4 ⟨rfl, k4, g4⟩; have N4 := (N3).call hpW g4 k4; obtain ⟨q40, q41, q42⟩ := box_kept N4.g n2 hne2; try (have hk9 := (N4.b _ rfl).1; have hk8 := hne8 _ hk9; have hk7 := hne9 _ hk9; have zz := (N4.b _ rfl).2; have c0 := cellsAt zz 0; have c1 := cellsAt zz 1; have c2 := cellsAt zz 2; have c3 := cellsAt zz 3; have c4 := cellsAt zz 4; have c5 := cellsAt zz 5; have c6 := cellsAt zz 6; simp only [List.getElem?_toArray, List.getElem?_cons_zero, List.getElem?_cons_succ] at c0 c1 c2 c3 c4 c5 c6; have f0 := frozenAt zz 0; have f1 := frozenAt zz 1; have f2 := frozenAt zz 2; have f3 := frozenAt zz 3; have f4 := frozenAt zz 4; have f5 := frozenAt zz 5; have f6 := frozenAt zz 6))
      | (go_at_call_of 95 (Value.int IntKind.i64 6); refine (B4.out _ ?_).mono ?_; exact (N3.alloc).f; rintro e w4 ⟨rfl, k4, g4⟩; have N4 := (N3.alloc).call hpW g4 k4; obtain ⟨q40, q41, q42⟩ := box_kept N4.g n2 hne2; try (have hk9 := (N4.b _ rfl).1; have hk8 := hne8 _ hk9; have hk7 := hne9 _ hk9; have zz := (N4.b _ rfl).2; have c0 := cellsAt zz 0; have c1 := cellsAt zz 1; have c2 := cellsAt zz 2; have c3 := cellsAt zz 3; have c4 := cellsAt zz 4; have c5 := cellsAt zz 5; have c6 := cellsAt zz 6; simp only [List.getElem?_toArray, List.getElem?_cons_zero, List.getElem?_cons_succ] at c0 c1 c2 c3 c4 c5 c6; have f0 := frozenAt zz 0; have f1 := frozenAt zz 1; have f2 := frozenAt zz 2; have f3 := frozenAt zz 3; have f4 := frozenAt zz 4; have f5 := frozenAt zz 5; have f6 := frozenAt zz 6))
      | (go_at_call_of 95 (Value.int IntKind.i64 4); refine (B3.out _ ?_).mono ?_; exact (N2).f; rintro e w3 ⟨rfl, k3, g3⟩; have N3 := (N2).call hpW g3 k3; obtain ⟨q30, q31, q32⟩ := box_kept N3.g n2 hne2; skip)
      | (go_at_call_of 95 (Value.int IntKind.i64 4); refine (B3.out _ ?_).mono ?_; exact (N2.alloc).f; rintro e w3 ⟨rfl, k3, g3⟩; have N3 := (N2.alloc).call hpW g3 k3; obtain ⟨q30, q31, q32⟩ := box_kept N3.g n2 hne2; skip)
      | (go_at_call_of 95 (Value.int IntKind.i64 2); refine (B2.out _ ?_).mono ?_; exact (N1).f; rintro e w2 ⟨rfl, k2, g2⟩; have N2 := (N1).call hpW g2 k2; obtain ⟨q20, q21, q22⟩ := box_kept N2.g n2 hne2; skip)
      | (go_at_call_of 95 (Value.int IntKind.i64 2); refine (B2.out _ ?_).mono ?_; exact (N1.alloc).f; rintro e w2 ⟨rfl, k2, g2⟩; have N2 := (N1.alloc).call hpW g2 k2; obtain ⟨q20, q21, q22⟩ := box_kept N2.g n2 hne2; skip)
      | (go_at_call_of 95 (Value.int IntKind.i64 0); refine (B1.out _ ?_).mono ?_; exact (N0.drew).f; rintro e w1 ⟨rfl, k1, g1⟩; have N1 := (N0.drew).call hpW g1 k1; obtain ⟨q10, q11, q12⟩ := box_kept N1.g n2 hne2; skip)
      | (go_at_call_of 95 (Value.int IntKind.i64 0); refine (B1.out _ ?_).mono ?_; exact (N0.allocD).f; rintro e w1 ⟨rfl, k1, g1⟩; have N1 := (N0.allocD).call hpW g1 k1; obtain ⟨q10, q11, q12⟩ := box_kept N1.g n2 hne2; skip)
      | (go_at_call_of 95 (Value.int IntKind.i64 0); refine (B1.out _ ?_).mono ?_; exact (N0).f; rintro e w1 ⟨rfl, k1, g1⟩; have N1 := (N0).call hpW g1 k1; obtain ⟨q10, q11, q12⟩ := box_kept N1.g n2 hne2; skip)
      | (go_at_call_of 95 (Value.int IntKind.i64 0); refine (B1.out _ ?_).mono ?_; exact (N0.alloc).f; rintro e w1 ⟨rfl, k1, g1⟩; have N1 := (N0.alloc).call hpW g1 k1; obtain ⟨q10, q11, q12⟩ := box_kept N1.g n2 hne2; skip))
    all_goals (
      go_wp2_with fail
      go_meet
      first
        | exact ⟨_, rfl, N4.g.size, grown_trans N4.g (World.grownBy_alloc _ _ _), fl_alloc N4.f _, new_at _ _⟩
        | (obtain ⟨a1, a2, a3⟩ := N4.set7 hpW (.int .i64 (pl : Int)) (.int .i64 (en : Int)) (.int .i64 (la : Int)) (.int .i64 (id : Int)) (.int .i64 0) (.int .i64 0) (.string ⟨#[]⟩); exact ⟨_, rfl, (N4.b _ rfl).1, ⟨a1.os, a1.tape, a1.output, a1.size, a1.block⟩, a2, a3⟩)
        | (have a1 := grown_trans N4.g (World.grownBy_alloc w4 (.cells #[.int .i64 (pl : Int), .int .i64 (en : Int), .int .i64 (la : Int), .int .i64 (id : Int), .int .i64 0, .int .i64 0, .string ⟨#[]⟩] 72) (some p)); exact ⟨_, rfl, N4.g.size, ⟨a1.os, a1.tape, a1.output, a1.size, a1.block⟩, fl_alloc N4.f _, new_at _ _⟩))
  case rest =>
    obtain ⟨kk, rfl, hkk, gc, kc, nk⟩ := hcut
    clear B1 B2 B3 B4 y0 y1 y2
    have c2 := grown_at gc n2 hne2
    have sW4 : W.heap.size = w.heap.size + 4 := by rw [← hW]; simp
    clear hW
    have y0 := cellsAt c2 0
    have y1 := cellsAt c2 1
    have y2 := cellsAt c2 2
    simp only [List.getElem?_toArray, List.getElem?_cons_zero, List.getElem?_cons_succ] at y0 y1 y2
    go_upto_region 2 with fail
    go_cut [10, 11] (fun s10 s11 wx => s10 = .int .i64 (size : Int) ∧ s11 = .int .i64 J ∧ wc.grownBy wx (some p) ∧ FlAt p M D wx)
    case first =>
      go_region_held3 (fun w' => w'.cell? ⟨w.heap.size + 2, 0, none⟩ = some (.pointer (some ⟨p, 0, none⟩)) ∧ w'.cell? ⟨w.heap.size + 2, 1, none⟩ = some (.int .i64 (r.b : Int)) ∧ w'.cell? ⟨w.heap.size + 2, 2, none⟩ = some (.int .i64 (r.s : Int))) (go_keep) (first
        | (go_at_call_of 95 (Value.int IntKind.i64 10); refine (B6.out _ ?_).mono ?_; exact k5; rintro e w6 ⟨rfl, k6, g6⟩; obtain ⟨q60, q61, q62⟩ := box_kept (grown_trans g5 g6) c2 hne2)
        | (go_at_call_of 95 (Value.int IntKind.i64 8); refine (B5.out _ ?_).mono ?_; exact kc; rintro e w5 ⟨rfl, k5, g5⟩; obtain ⟨q50, q51, q52⟩ := box_kept g5 c2 hne2))
      all_goals (
        go_wp2_with fail
        go_meet
        have a1 := grown_trans g5 g6
        exact ⟨rfl, by first | rfl | (rw [wJ2]) | (rw [wJ]), ⟨a1.os, a1.tape, a1.output, a1.size, a1.block⟩, k6⟩)
    case rest =>
      obtain ⟨rfl, rfl, gd, kd⟩ := hcut
      clear B5 B6 y0 y1 y2 c2 n2
      rename_i wd
      have nk2 := grown_at gd nk (by omega)
      have gWd := grown_trans gc gd
      obtain ⟨n0, n1, n2, n3⟩ := HN.out
      have d0 := grown_at gWd n0 (by omega)
      have d1 := grown_at gWd n1 (by omega)
      have d3 := grown_at gWd n3 (by omega)
      have eD := HE.out.grow gWd
      have gF := grown_trans gW gWd
      have D1 := Lib.hid (C1.out _ eD.pol.ids)
      clear n0 n1 n2 n3 HN HE C1 nk gc gd kc gWd gW fW eD
      have x0 := cellsAt d0 1
      have x3 := cellsAt nk2 3
      have x4 := cellsAt nk2 4
      have fr4 := frozenAt nk2 4
      simp only [List.getElem?_toArray, List.getElem?_cons_zero, List.getElem?_cons_succ] at x0 x3 x4
      have d3' : wc.heap[w.heap.size + 1 + 1 + 1]? = some (.cells #[.int .i64 0, .int .i64 0, .int .i64 0, .int .i64 0, .int .i64 0, .int .i64 0, .string ⟨#[]⟩, .pointer none, .int .i64 0, .int .i64 0] 170 (0, 0)) := d3
      obtain ⟨A3, hA3⟩ : ∃ A3, w.heap.size + 1 + 1 + 1 = A3 := ⟨_, rfl⟩
      obtain ⟨A1, hA1⟩ : ∃ A1, w.heap.size + 1 = A1 := ⟨_, rfl⟩
      have hk1 : ¬ (kk = A1) := by omega
      have hk3 : ¬ (kk = A3) := by omega
      have hk1' : ¬ (A1 = kk) := by omega
      have hk3' : ¬ (A3 = kk) := by omega
      have hkp : kk ≠ p := by omega
      have hk13 : ¬ (A1 = A3) := by omega
      have hk31 : ¬ (A3 = A1) := by omega
      have hA3w : w.heap.size ≤ A3 := by omega
      have hA3p : A3 ≠ p := by omega
      have hA1p : A1 ≠ p := by omega
      have hpA3 : p ≠ A3 := by omega
      rw [hA3] at d3'
      rw [hA1] at d1
      rw [hA3]
      rw [hA1]
      clear hA3 hA1
      cases hc : P.ids.contains (id : Int) with
      | true =>
        rw [hc] at D1
        have hS4 : S = 4 := by have := HSt.out; rw [hc] at this; simpa using this.symm
        subst hS4
        clear HSt hc
        go_wp2_with (go_at_call 131; refine D1.out.mono ?_; rintro e w7 ⟨rfl, hw7⟩; have hw7 := hw7.symm; subst hw7; refine Hid.out ?_)
        obtain ⟨W8, hW8⟩ : ∃ W8, wc.setCell ⟨kk, 4, none⟩ (.int .i64 4) = W8 := ⟨_, rfl⟩
        have gs : wc.grownBy W8 (some kk) := by rw [← hW8]; exact grown_set (World.grownBy.refl _ _) _ _
        have nk8 : W8.heap[kk]? = some (.cells #[.int .i64 (pl : Int), .int .i64 (en : Int), .int .i64 (la : Int), .int .i64 (id : Int), .int .i64 4, .int .i64 0, .string ⟨#[]⟩] 72 (0, 0)) := by rw [← hW8]; exact setCell_row nk2 _
        have dT := grown_at gs d1 hk1'
        have dR := grown_at gs d3' hk3'
        have kf : FlAt p M D W8 := grown_at gs kd (Ne.symm hkp)
        have gf : w.grownBy W8 (some p) := grown_row gF gs (fun j hj => by cases hj; omega)
        clear x0 x3 D1 C2
        have t0 := cellsAt nk8 0
        have t1 := cellsAt nk8 1
        have t2 := cellsAt nk8 2
        have t3 := cellsAt nk8 3
        have t4 := cellsAt nk8 4
        have t5 := cellsAt nk8 5
        have t6 := cellsAt nk8 6
        have y0 := cellsAt dT 0
        have y1 := cellsAt dT 1
        have y2 := cellsAt dT 2
        simp only [List.getElem?_toArray, List.getElem?_cons_zero, List.getElem?_cons_succ] at t0 t1 t2 t3 t4 t5 t6 y0 y1 y2
        have D3 := Lib.hid (C3.out W8)
        have D3' := Lib.hid (C3.out W8.drew)
        refine Lib.hid ?_
        go_wp2_with fail
        go_region_held3 (fun w' => w'.cell? ⟨kk, 0, none⟩ = some (.int .i64 (pl : Int)) ∧ w'.cell? ⟨kk, 1, none⟩ = some (.int .i64 (en : Int)) ∧ w'.cell? ⟨kk, 2, none⟩ = some (.int .i64 (la : Int)) ∧ w'.cell? ⟨kk, 3, none⟩ = some (.int .i64 (id : Int)) ∧ w'.cell? ⟨kk, 4, none⟩ = some (.int .i64 4) ∧ w'.cell? ⟨kk, 5, none⟩ = some (.int .i64 0) ∧ w'.cell? ⟨kk, 6, none⟩ = some (.string ⟨#[]⟩) ∧ w'.cell? ⟨A1, 0, none⟩ = some (.pointer (some ⟨p, 0, none⟩)) ∧ w'.cell? ⟨A1, 1, none⟩ = some (.int .i64 (t.b : Int)) ∧ w'.cell? ⟨A1, 2, none⟩ = some (.int .i64 (t.s : Int))) (go_keep) (first
          | (go_at_call 93; refine (C3.out _).mono ?_; rintro e w9 ⟨rfl, hb9⟩; have gb9 : W8.grownBy w9 (some p) := (by first | exact grown_below _ hb9 | exact grown_drew (grown_below _ hb9)); have v9 := grown_at gb9 nk8 hkp; have r9 := grown_at gb9 dR hA3p; have a9 := grown_at gb9 dT hA1p; have k9 := grown_at (p := w9.heap.size + p + 1) (⟨gb9.os, gb9.tape, gb9.output, gb9.size, fun i hi _ => (by first | exact hb9.block i hi)⟩) kf (by omega); have s0 := cellsAt v9 0; have s1 := cellsAt v9 1; have s2 := cellsAt v9 2; have s3 := cellsAt v9 3; have s4 := cellsAt v9 4; have s5 := cellsAt v9 5; have s6 := cellsAt v9 6; have o0 := cellsAt a9 0; have o1 := cellsAt a9 1; have o2 := cellsAt a9 2; have c0 := cellsAt r9 0; have c1 := cellsAt r9 1; have c2 := cellsAt r9 2; have c3 := cellsAt r9 3; have c4 := cellsAt r9 4; have c5 := cellsAt r9 5; have c6 := cellsAt r9 6; have c7 := cellsAt r9 7; have c8 := cellsAt r9 8; have c9 := cellsAt r9 9; simp only [List.getElem?_toArray, List.getElem?_cons_zero, List.getElem?_cons_succ] at s0 s1 s2 s3 s4 s5 s6 o0 o1 o2 c0 c1 c2 c3 c4 c5 c6 c7 c8 c9; have f0 := frozenAt r9 0; have f1 := frozenAt r9 1; have f2 := frozenAt r9 2; have f3 := frozenAt r9 3; have f4 := frozenAt r9 4; have f5 := frozenAt r9 5; have f6 := frozenAt r9 6; have f7 := frozenAt r9 7; have f8 := frozenAt r9 8; have f9 := frozenAt r9 9))
        all_goals (
          go_wp2
          obtain ⟨zr, zf, zg⟩ := end10 (w := w) (.int .i64 (pl : Int)) (.int .i64 (en : Int)) (.int .i64 (la : Int)) (.int .i64 (id : Int)) (.int .i64 4) (.int .i64 0) (.string ⟨#[]⟩) (.pointer (some ⟨p, 0, none⟩)) (.int .i64 ((t.cut (texts + at_) size).b : Int)) (.int .i64 ((t.cut (texts + at_) size).s : Int)) r9 hA3w hpA3 k9 (grown_trans gf gb9)
          have z0 := cellsAt zr 0
          have z1 := cellsAt zr 1
          have z2 := cellsAt zr 2
          have z3 := cellsAt zr 3
          have z4 := cellsAt zr 4
          have z5 := cellsAt zr 5
          have z6 := cellsAt zr 6
          have z7 := cellsAt zr 7
          have z8 := cellsAt zr 8
          have z9 := cellsAt zr 9
          simp only [List.getElem?_toArray, List.getElem?_cons_zero, List.getElem?_cons_succ] at z0 z1 z2 z3 z4 z5 z6 z7 z8 z9
          exact bodyPost_ret (v := nv p ⟨pl, en, la, id, 4, t.cut (texts + at_) size⟩) (by simp [results, Tryz.results99, go_sem, nv, z0, z1, z2, z3, z4, z5, z6, z7, z8, z9]) rfl ⟨rfl, zf, ⟨zg.os, zg.tape, zg.output, zg.size, zg.block⟩⟩)
      | false =>
        rw [hc] at D1
        have y10 := cellsAt d1 0
        have y11 := cellsAt d1 1
        have y12 := cellsAt d1 2
        simp only [List.getElem?_toArray, List.getElem?_cons_zero, List.getElem?_cons_succ] at y10 y11 y12
        have D2 := Lib.hid (C2.out wc)
        cases hh : holdsB t.s (texts + at_) size with
        | true =>
          rw [hh] at D2
          have hS4 : S = 0 := by have := HSt.out; rw [hc, hh] at this; simpa using this.symm
          subst hS4
          clear HSt hc hh
          go_wp2_with (first | (go_at_call 131; refine D1.out.mono ?_; rintro e w7 ⟨rfl, hw7⟩; have hw7 := hw7.symm; subst hw7) | (go_at_call 130; refine D2.out.mono ?_; rintro e W8 ⟨rfl, hb8⟩; refine Hid.out ?_))
          have nk8 := at_below nk2 hb8
          have dT := at_below d1 hb8
          have dR := at_below d3' hb8
          have kf := fl_below kd hb8
          have gf := grown_trans gF (grown_below (some p) hb8)
          clear x0 x3 x4 fr4 D1 C2 D2 y10 y11 y12
          have t0 := cellsAt nk8 0
          have t1 := cellsAt nk8 1
          have t2 := cellsAt nk8 2
          have t3 := cellsAt nk8 3
          have t4 := cellsAt nk8 4
          have t5 := cellsAt nk8 5
          have t6 := cellsAt nk8 6
          have y0 := cellsAt dT 0
          have y1 := cellsAt dT 1
          have y2 := cellsAt dT 2
          simp only [List.getElem?_toArray, List.getElem?_cons_zero, List.getElem?_cons_succ] at t0 t1 t2 t3 t4 t5 t6 y0 y1 y2
          have D3 := Lib.hid (C3.out W8)
          have D3' := Lib.hid (C3.out W8.drew)
          refine Lib.hid ?_
          go_wp2_with fail
          go_region_held3 (fun w' => w'.cell? ⟨kk, 0, none⟩ = some (.int .i64 (pl : Int)) ∧ w'.cell? ⟨kk, 1, none⟩ = some (.int .i64 (en : Int)) ∧ w'.cell? ⟨kk, 2, none⟩ = some (.int .i64 (la : Int)) ∧ w'.cell? ⟨kk, 3, none⟩ = some (.int .i64 (id : Int)) ∧ w'.cell? ⟨kk, 4, none⟩ = some (.int .i64 0) ∧ w'.cell? ⟨kk, 5, none⟩ = some (.int .i64 0) ∧ w'.cell? ⟨kk, 6, none⟩ = some (.string ⟨#[]⟩) ∧ w'.cell? ⟨A1, 0, none⟩ = some (.pointer (some ⟨p, 0, none⟩)) ∧ w'.cell? ⟨A1, 1, none⟩ = some (.int .i64 (t.b : Int)) ∧ w'.cell? ⟨A1, 2, none⟩ = some (.int .i64 (t.s : Int))) (go_keep) (first
            | (go_at_call 93; refine (C3.out _).mono ?_; rintro e w9 ⟨rfl, hb9⟩; have gb9 : W8.grownBy w9 (some p) := (by first | exact grown_below _ hb9 | exact grown_drew (grown_below _ hb9)); have v9 := grown_at gb9 nk8 hkp; have r9 := grown_at gb9 dR hA3p; have a9 := grown_at gb9 dT hA1p; have k9 := grown_at (p := w9.heap.size + p + 1) (⟨gb9.os, gb9.tape, gb9.output, gb9.size, fun i hi _ => (by first | exact hb9.block i hi)⟩) kf (by omega); have s0 := cellsAt v9 0; have s1 := cellsAt v9 1; have s2 := cellsAt v9 2; have s3 := cellsAt v9 3; have s4 := cellsAt v9 4; have s5 := cellsAt v9 5; have s6 := cellsAt v9 6; have o0 := cellsAt a9 0; have o1 := cellsAt a9 1; have o2 := cellsAt a9 2; have c0 := cellsAt r9 0; have c1 := cellsAt r9 1; have c2 := cellsAt r9 2; have c3 := cellsAt r9 3; have c4 := cellsAt r9 4; have c5 := cellsAt r9 5; have c6 := cellsAt r9 6; have c7 := cellsAt r9 7; have c8 := cellsAt r9 8; have c9 := cellsAt r9 9; simp only [List.getElem?_toArray, List.getElem?_cons_zero, List.getElem?_cons_succ] at s0 s1 s2 s3 s4 s5 s6 o0 o1 o2 c0 c1 c2 c3 c4 c5 c6 c7 c8 c9; have f0 := frozenAt r9 0; have f1 := frozenAt r9 1; have f2 := frozenAt r9 2; have f3 := frozenAt r9 3; have f4 := frozenAt r9 4; have f5 := frozenAt r9 5; have f6 := frozenAt r9 6; have f7 := frozenAt r9 7; have f8 := frozenAt r9 8; have f9 := frozenAt r9 9))
          all_goals (
            go_wp2
            obtain ⟨zr, zf, zg⟩ := end10 (w := w) (.int .i64 (pl : Int)) (.int .i64 (en : Int)) (.int .i64 (la : Int)) (.int .i64 (id : Int)) (.int .i64 0) (.int .i64 0) (.string ⟨#[]⟩) (.pointer (some ⟨p, 0, none⟩)) (.int .i64 ((t.cut (texts + at_) size).b : Int)) (.int .i64 ((t.cut (texts + at_) size).s : Int)) r9 hA3w hpA3 k9 (grown_trans gf gb9)
            have z0 := cellsAt zr 0
            have z1 := cellsAt zr 1
            have z2 := cellsAt zr 2
            have z3 := cellsAt zr 3
            have z4 := cellsAt zr 4
            have z5 := cellsAt zr 5
            have z6 := cellsAt zr 6
            have z7 := cellsAt zr 7
            have z8 := cellsAt zr 8
            have z9 := cellsAt zr 9
            simp only [List.getElem?_toArray, List.getElem?_cons_zero, List.getElem?_cons_succ] at z0 z1 z2 z3 z4 z5 z6 z7 z8 z9
            exact bodyPost_ret (v := nv p ⟨pl, en, la, id, 0, t.cut (texts + at_) size⟩) (by simp [results, Tryz.results99, go_sem, nv, z0, z1, z2, z3, z4, z5, z6, z7, z8, z9]) rfl ⟨rfl, zf, ⟨zg.os, zg.tape, zg.output, zg.size, zg.block⟩⟩)
        | false =>
          rw [hh] at D2
          have hS4 : S = 2 := by have := HSt.out; rw [hc, hh] at this; simpa using this.symm
          subst hS4
          clear HSt hc hh
          go_wp2_with (first | (go_at_call 131; refine D1.out.mono ?_; rintro e w7 ⟨rfl, hw7⟩; have hw7 := hw7.symm; subst hw7) | (go_at_call 130; refine D2.out.mono ?_; rintro e w8 ⟨rfl, hb8⟩; refine Hid.out ?_))
          have nk7 := at_below nk2 hb8
          obtain ⟨W8, hW8⟩ : ∃ W8, w8.setCell ⟨kk, 4, none⟩ (.int .i64 2) = W8 := ⟨_, rfl⟩
          have gs : w8.grownBy W8 (some kk) := by rw [← hW8]; exact grown_set (World.grownBy.refl _ _) _ _
          have nk8 : W8.heap[kk]? = some (.cells #[.int .i64 (pl : Int), .int .i64 (en : Int), .int .i64 (la : Int), .int .i64 (id : Int), .int .i64 2, .int .i64 0, .string ⟨#[]⟩] 72 (0, 0)) := by rw [← hW8]; exact setCell_row nk7 _
          have dT := grown_at gs (at_below d1 hb8) hk1'
          have dR := grown_at gs (at_below d3' hb8) hk3'
          have kf : FlAt p M D W8 := grown_at gs (fl_below kd hb8) (Ne.symm hkp)
          have gf : w.grownBy W8 (some p) := grown_row (grown_trans gF (grown_below (some p) hb8)) gs (fun j hj => by cases hj; omega)
          clear x0 x3 x4 fr4 D1 C2 D2 y10 y11 y12
          have x4 := cellsAt nk7 4
          have fr4 := frozenAt nk7 4
          simp only [List.getElem?_toArray, List.getElem?_cons_zero, List.getElem?_cons_succ] at x4
          have t0 := cellsAt nk8 0
          have t1 := cellsAt nk8 1
          have t2 := cellsAt nk8 2
          have t3 := cellsAt nk8 3
          have t4 := cellsAt nk8 4
          have t5 := cellsAt nk8 5
          have t6 := cellsAt nk8 6
          have y0 := cellsAt dT 0
          have y1 := cellsAt dT 1
          have y2 := cellsAt dT 2
          simp only [List.getElem?_toArray, List.getElem?_cons_zero, List.getElem?_cons_succ] at t0 t1 t2 t3 t4 t5 t6 y0 y1 y2
          have D3 := Lib.hid (C3.out W8)
          have D3' := Lib.hid (C3.out W8.drew)
          refine Lib.hid ?_
          go_wp2_with fail
          go_region_held3 (fun w' => w'.cell? ⟨kk, 0, none⟩ = some (.int .i64 (pl : Int)) ∧ w'.cell? ⟨kk, 1, none⟩ = some (.int .i64 (en : Int)) ∧ w'.cell? ⟨kk, 2, none⟩ = some (.int .i64 (la : Int)) ∧ w'.cell? ⟨kk, 3, none⟩ = some (.int .i64 (id : Int)) ∧ w'.cell? ⟨kk, 4, none⟩ = some (.int .i64 2) ∧ w'.cell? ⟨kk, 5, none⟩ = some (.int .i64 0) ∧ w'.cell? ⟨kk, 6, none⟩ = some (.string ⟨#[]⟩) ∧ w'.cell? ⟨A1, 0, none⟩ = some (.pointer (some ⟨p, 0, none⟩)) ∧ w'.cell? ⟨A1, 1, none⟩ = some (.int .i64 (t.b : Int)) ∧ w'.cell? ⟨A1, 2, none⟩ = some (.int .i64 (t.s : Int))) (go_keep) (first
            | (go_at_call 93; refine (C3.out _).mono ?_; rintro e w9 ⟨rfl, hb9⟩; have gb9 : W8.grownBy w9 (some p) := (by first | exact grown_below _ hb9 | exact grown_drew (grown_below _ hb9)); have v9 := grown_at gb9 nk8 hkp; have r9 := grown_at gb9 dR hA3p; have a9 := grown_at gb9 dT hA1p; have k9 := grown_at (p := w9.heap.size + p + 1) (⟨gb9.os, gb9.tape, gb9.output, gb9.size, fun i hi _ => (by first | exact hb9.block i hi)⟩) kf (by omega); have s0 := cellsAt v9 0; have s1 := cellsAt v9 1; have s2 := cellsAt v9 2; have s3 := cellsAt v9 3; have s4 := cellsAt v9 4; have s5 := cellsAt v9 5; have s6 := cellsAt v9 6; have o0 := cellsAt a9 0; have o1 := cellsAt a9 1; have o2 := cellsAt a9 2; have c0 := cellsAt r9 0; have c1 := cellsAt r9 1; have c2 := cellsAt r9 2; have c3 := cellsAt r9 3; have c4 := cellsAt r9 4; have c5 := cellsAt r9 5; have c6 := cellsAt r9 6; have c7 := cellsAt r9 7; have c8 := cellsAt r9 8; have c9 := cellsAt r9 9; simp only [List.getElem?_toArray, List.getElem?_cons_zero, List.getElem?_cons_succ] at s0 s1 s2 s3 s4 s5 s6 o0 o1 o2 c0 c1 c2 c3 c4 c5 c6 c7 c8 c9; have f0 := frozenAt r9 0; have f1 := frozenAt r9 1; have f2 := frozenAt r9 2; have f3 := frozenAt r9 3; have f4 := frozenAt r9 4; have f5 := frozenAt r9 5; have f6 := frozenAt r9 6; have f7 := frozenAt r9 7; have f8 := frozenAt r9 8; have f9 := frozenAt r9 9))
          all_goals (
            go_wp2
            obtain ⟨zr, zf, zg⟩ := end10 (w := w) (.int .i64 (pl : Int)) (.int .i64 (en : Int)) (.int .i64 (la : Int)) (.int .i64 (id : Int)) (.int .i64 2) (.int .i64 0) (.string ⟨#[]⟩) (.pointer (some ⟨p, 0, none⟩)) (.int .i64 ((t.cut (texts + at_) size).b : Int)) (.int .i64 ((t.cut (texts + at_) size).s : Int)) r9 hA3w hpA3 k9 (grown_trans gf gb9)
            have z0 := cellsAt zr 0
            have z1 := cellsAt zr 1
            have z2 := cellsAt zr 2
            have z3 := cellsAt zr 3
            have z4 := cellsAt zr 4
            have z5 := cellsAt zr 5
            have z6 := cellsAt zr 6
            have z7 := cellsAt zr 7
            have z8 := cellsAt zr 8
            have z9 := cellsAt zr 9
            simp only [List.getElem?_toArray, List.getElem?_cons_zero, List.getElem?_cons_succ] at z0 z1 z2 z3 z4 z5 z6 z7 z8 z9
            exact bodyPost_ret (v := nv p ⟨pl, en, la, id, 2, t.cut (texts + at_) size⟩) (by simp [results, Tryz.results99, go_sem, nv, z0, z1, z2, z3, z4, z5, z6, z7, z8, z9]) rfl ⟨rfl, zf, ⟨zg.os, zg.tape, zg.output, zg.size, zg.block⟩⟩)
end Go.Proofs.YteibjmlimcpaoaaGreatDoor.W

set_option linter.unusedVariables false
set_option linter.unusedSimpArgs false
namespace Go.Proofs.YteibjmlimcpaoaaGreatDoor.W
open Go.RowKit Go.Sort

/-- a name as it is told, as a value -/
def nmv (y : Nm) : Value := .agg #[.int .i64 y.pl, .int .i64 y.en, .int .i64 y.la, .int .i64 y.id, .int .i64 y.st, .int .i64 y.ms, .string y.tx]
theorem told_run (D : List UInt8) (limit : Int) (x : Nw) (m m1 : Mt) (b : List UInt8) (h0 : x.st = 0) (h1 : x.v.bytes.run D m = (b, m1)) (r : List UInt8 × Int × Int) (hr : textOf x.pl x.en b limit = r) : (toldP limit x).run D m = (⟨x.pl, x.en, x.la, x.id, r.2.2, r.2.1, ⟨r.1.toArray⟩⟩, m1) := by
  unfold toldP
  rw [if_pos h0, Pr.run_bind, h1]
  simp only
  rw [hr]
  rfl
theorem bytes_len (D : List UInt8) : ∀ (n i : Nat) (m : Mt), ((bytesAt i n).run D m).1.length ≤ n
  | 0, i, m => by simp [bytesAt, Pr.run]
  | n + 1, i, m => by
    rw [bytesAt_succ]
    split
    · simp
    · simp only [List.length_cons]
      have := bytes_len D n (i + 1) m.reads
      omega
/-- seven cells of a result -/
theorem end7 {w w1 : World} {p k : Nat} {m : Mt} {D : List UInt8} {x0 x1 x2 x3 x4 x5 x6 : Value} (v0 v1 v2 v3 v4 v5 v6 : Value) {T : TypeId} (q : w1.heap[k]? = some (.cells #[x0, x1, x2, x3, x4, x5, x6] T (0, 0))) (hk : w.heap.size ≤ k) (hpk : p ≠ k) (hf : FlAt p m D w1) (g : w.grownBy w1 (some p)) :
    (((((((w1.setCell ⟨k, 0, none⟩ v0).setCell ⟨k, 1, none⟩ v1).setCell ⟨k, 2, none⟩ v2).setCell ⟨k, 3, none⟩ v3).setCell ⟨k, 4, none⟩ v4).setCell ⟨k, 5, none⟩ v5).setCell ⟨k, 6, none⟩ v6).heap[k]? = some (.cells #[v0, v1, v2, v3, v4, v5, v6] T (0, 0)) ∧ FlAt p m D (((((((w1.setCell ⟨k, 0, none⟩ v0).setCell ⟨k, 1, none⟩ v1).setCell ⟨k, 2, none⟩ v2).setCell ⟨k, 3, none⟩ v3).setCell ⟨k, 4, none⟩ v4).setCell ⟨k, 5, none⟩ v5).setCell ⟨k, 6, none⟩ v6) ∧ w.grownBy (((((((w1.setCell ⟨k, 0, none⟩ v0).setCell ⟨k, 1, none⟩ v1).setCell ⟨k, 2, none⟩ v2).setCell ⟨k, 3, none⟩ v3).setCell ⟨k, 4, none⟩ v4).setCell ⟨k, 5, none⟩ v5).setCell ⟨k, 6, none⟩ v6) (some p) := by
  have q0 : (w1.setCell ⟨k, 0, none⟩ v0).heap[k]? = some (.cells #[v0, x1, x2, x3, x4, x5, x6] T (0, 0)) := setCell_row q v0
  have q6 := setCell_row (i := 6) (setCell_row (i := 5) (setCell_row (i := 4) (setCell_row (i := 3) (setCell_row (i := 2) (setCell_row (i := 1) q0 v1) v2) v3) v4) v5) v6
  have gs : w1.grownBy (((((((w1.setCell ⟨k, 0, none⟩ v0).setCell ⟨k, 1, none⟩ v1).setCell ⟨k, 2, none⟩ v2).setCell ⟨k, 3, none⟩ v3).setCell ⟨k, 4, none⟩ v4).setCell ⟨k, 5, none⟩ v5).setCell ⟨k, 6, none⟩ v6) (some k) := grown_set (grown_set (grown_set (grown_set (grown_set (grown_set (grown_set (World.grownBy.refl _ _) _ _) _ _) _ _) _ _) _ _) _ _) _ _
  exact ⟨q6, grown_at gs hf hpk, grown_row g gs (fun j hj => by cases hj; exact hk)⟩

set_option maxRecDepth 100000 in
set_option maxHeartbeats 4000000 in
theorem ntoldW (p : Nat) (limit : Int) (x : Nw) (P : Pol) (T I : Value) (m : Mt) (D : List UInt8) (w : World) (hx : NB D.length x) (hD : D.length ≤ 2000) (hm : MOk m) (h : FlAt p m D w) (he : En P T I p w) (y : Nm) (M : Mt) (hr : (toldP limit x).run D m = (y, M)) :
    Calls Tryz.prog 120 #[nv p x, .int .i64 limit] w fun e w' => e = .returned (nmv y) ∧ FlAt p M D w' ∧ w.grownBy w' (some p) := by
  have hlt := fl_lt h
  obtain ⟨W, hW⟩ : ∃ W, (w.alloc (.cells #[.int .i64 (x.pl : Int), .int .i64 (x.en : Int), .int .i64 (x.la : Int), .int .i64 (x.id : Int), .int .i64 (x.st : Int), .int .i64 0, .string ⟨#[]⟩, .pointer (some ⟨p, 0, none⟩), .int .i64 (x.v.b : Int), .int .i64 (x.v.s : Int)] 170)).alloc (.cells #[.int .i64 0, .int .i64 0, .int .i64 0, .int .i64 0, .int .i64 0, .int .i64 0, .string ⟨#[]⟩] 72) = W := ⟨_, rfl⟩
  have hbW : Below w.heap.size w W := by rw [← hW]; exact (below_alloc _ _).alloc (by simp) _
  have gW : w.grownBy W (some p) := grown_below _ hbW
  have fW : FlAt p m D W := fl_below h hbW
  have eW := he.grow gW
  have n0 : W.heap[w.heap.size]? = some (.cells #[.int .i64 (x.pl : Int), .int .i64 (x.en : Int), .int .i64 (x.la : Int), .int .i64 (x.id : Int), .int .i64 (x.st : Int), .int .i64 0, .string ⟨#[]⟩, .pointer (some ⟨p, 0, none⟩), .int .i64 (x.v.b : Int), .int .i64 (x.v.s : Int)] 170 (0, 0)) := by rw [← hW]; exact at_alloc (new_at _ _)
  have n1 : W.heap[w.heap.size + 1]? = some (.cells #[.int .i64 0, .int .i64 0, .int .i64 0, .int .i64 0, .int .i64 0, .int .i64 0, .string ⟨#[]⟩] 72 (0, 0)) := by
    rw [← hW]
    have := new_at (w.alloc (.cells #[.int .i64 (x.pl : Int), .int .i64 (x.en : Int), .int .i64 (x.la : Int), .int .i64 (x.id : Int), .int .i64 (x.st : Int), .int .i64 0, .string ⟨#[]⟩, .pointer (some ⟨p, 0, none⟩), .int .i64 (x.v.b : Int), .int .i64 (x.v.s : Int)] 170)) (.cells #[.int .i64 0, .int .i64 0, .int .i64 0, .int .i64 0, .int .i64 0, .int .i64 0, .string ⟨#[]⟩] 72)
    simpa using this
  have y0 := cellsAt n0 0
  have y1 := cellsAt n0 1
  have y2 := cellsAt n0 2
  have y3 := cellsAt n0 3
  have y4 := cellsAt n0 4
  have y5 := cellsAt n0 5
  have y6 := cellsAt n0 6
  have y7 := cellsAt n0 7
  have y8 := cellsAt n0 8
  have y9 := cellsAt n0 9
  have ur0 := cellsAt n1 0
  have ur1 := cellsAt n1 1
  have ur2 := cellsAt n1 2
  have ur3 := cellsAt n1 3
  have ur4 := cellsAt n1 4
  have ur5 := cellsAt n1 5
  have ur6 := cellsAt n1 6
  have fz0 := frozenAt n1 0
  have fz1 := frozenAt n1 1
  have fz2 := frozenAt n1 2
  have fz3 := frozenAt n1 3
  have fz4 := frozenAt n1 4
  have fz5 := frozenAt n1 5
  have fz6 := frozenAt n1 6
  simp only [List.getElem?_toArray, List.getElem?_cons_zero, List.getElem?_cons_succ] at y0 y1 y2 y3 y4 y5 y6 y7 y8 y9 ur0 ur1 ur2 ur3 ur4 ur5 ur6
  unfold nv
  by_cases h0 : x.st = 0
  · obtain ⟨b, m1, h1⟩ : ∃ b m1, x.v.bytes.run D m = (b, m1) := ⟨_, _, rfl⟩
    obtain ⟨r, hrr⟩ : ∃ r, textOf x.pl x.en b limit = r := ⟨_, rfl⟩
    rw [told_run D limit x m m1 b h0 h1 r hrr] at hr
    cases hr
    have hin : InF x.v D := ⟨hx.v, hD⟩
    have hbl : b.length ≤ 2000 := by
      have := bytes_len D x.v.s x.v.b m
      unfold Wn.bytes at h1
      rw [h1] at this
      have := hin.s
      simp only at *
      omega
    have B1 := Lib.hid (fun w f => bytesW p x.v m D w hin hm f b M (by rw [h1]) (by rw [h1]))
    have B2 := Lib.hid (fun w ht => Go.Proofs.YteibjmlimcpaoaaGreatDoor.T.tell9 (x.pl : Int) (x.en : Int) ⟨b.toArray⟩ limit w (by show Array.size _ ≤ _; simp; omega) ht)
    have e0 : (ByteArray.mk b.toArray).data.toList = b := by simp
    rw [e0, hrr] at B2
    have hst : (x.st : Int) = 0 := by omega
    rw [h0] at y4 n0 hW
    unfold wv at B1
    have HE := Lib.hid eW
    clear eW he h hbW h1 hrr e0
    have hne0 : w.heap.size ≠ p := by omega
    generalize ByteArray.mk b.toArray = X at *
    obtain ⟨Y, hY⟩ : ∃ Y : ByteArray, ByteArray.mk r.1.toArray = Y := ⟨_, rfl⟩
    rw [hY] at B2
    rw [hY]
    simp only [Int.ofNat_zero, Int.natCast_zero, Int.cast_ofNat_Int] at y4 n0 hW
    rw [h0]
    simp only [Int.ofNat_zero, Int.natCast_zero, Int.cast_ofNat_Int]
    go_enter Tryz.func120, Tryz.ntmps120
    go_upto_region 2 with fail
    go_cut [] (fun wx => w.grownBy wx (some p) ∧ FlAt p M D wx ∧ wx.heap[w.heap.size]? = some (.cells #[.int .i64 (x.pl : Int), .int .i64 (x.en : Int), .int .i64 (x.la : Int), .int .i64 (x.id : Int), .int .i64 r.2.2, .int .i64 r.2.1, .string Y, .pointer (some ⟨p, 0, none⟩), .int .i64 (x.v.b : Int), .int .i64 (x.v.s : Int)] 170 (0, 0)) ∧ wx.heap[w.heap.size + 1]? = some (.cells #[.int .i64 0, .int .i64 0, .int .i64 0, .int .i64 0, .int .i64 0, .int .i64 0, .string ⟨#[]⟩] 72 (0, 0)))
    case first =>
      go_region_held3 (fun w' => w'.cell? ⟨w.heap.size, 0, none⟩ = some (.int .i64 (x.pl : Int)) ∧ w'.cell? ⟨w.heap.size, 1, none⟩ = some (.int .i64 (x.en : Int)) ∧ w'.cell? ⟨w.heap.size, 7, none⟩ = some (.pointer (some ⟨p, 0, none⟩)) ∧ w'.cell? ⟨w.heap.size, 8, none⟩ = some (.int .i64 (x.v.b : Int)) ∧ w'.cell? ⟨w.heap.size, 9, none⟩ = some (.int .i64 (x.v.s : Int))) (go_keep) (first
        | (go_at_call 140; refine (B2.out w1 (HE.out.grow g1').tab).mono ?_; rintro e w2 ⟨rfl, hb2⟩; have m2 := at_below m1 hb2; have k2 := fl_below k1 hb2; have s0 := cellsAt m2 0; have s1 := cellsAt m2 1; have s4 := cellsAt m2 4; have s5 := cellsAt m2 5; have s6 := cellsAt m2 6; have s7 := cellsAt m2 7; have s8 := cellsAt m2 8; have s9 := cellsAt m2 9; simp only [List.getElem?_toArray, List.getElem?_cons_zero, List.getElem?_cons_succ] at s0 s1 s4 s5 s6 s7 s8 s9; have q6 : (w2.setCell ⟨w.heap.size, 6, none⟩ (.string Y)).heap[w.heap.size]? = some (.cells #[.int .i64 (x.pl : Int), .int .i64 (x.en : Int), .int .i64 (x.la : Int), .int .i64 (x.id : Int), .int .i64 0, .int .i64 0, .string Y, .pointer (some ⟨p, 0, none⟩), .int .i64 (x.v.b : Int), .int .i64 (x.v.s : Int)] 170 (0, 0)) := setCell_row m2 _; have q5 := setCell_row (i := 5) q6 (.int .i64 r.2.1); have q4 := setCell_row (i := 4) q5 (.int .i64 r.2.2); have aq60 := cellsAt q6 0; have aq61 := cellsAt q6 1; have aq64 := cellsAt q6 4; have aq65 := cellsAt q6 5; have aq67 := cellsAt q6 7; have aq68 := cellsAt q6 8; have aq69 := cellsAt q6 9; have aq50 := cellsAt q5 0; have aq51 := cellsAt q5 1; have aq54 := cellsAt q5 4; have aq55 := cellsAt q5 5; have aq57 := cellsAt q5 7; have aq58 := cellsAt q5 8; have aq59 := cellsAt q5 9; have aq40 := cellsAt q4 0; have aq41 := cellsAt q4 1; have aq44 := cellsAt q4 4; have aq45 := cellsAt q4 5; have aq47 := cellsAt q4 7; have aq48 := cellsAt q4 8; have aq49 := cellsAt q4 9; simp only [List.getElem?_toArray, List.getElem?_cons_zero, List.getElem?_cons_succ, List.setIfInBounds_toArray, List.set_cons_succ, List.set_cons_zero] at aq60 aq61 aq64 aq65 aq67 aq68 aq69 aq50 aq51 aq54 aq55 aq57 aq58 aq59 aq40 aq41 aq44 aq45 aq47 aq48 aq49; have fq5 := frozenAt q6 5; have fq4 := frozenAt q5 4; have f4 := frozenAt m2 4; have f5 := frozenAt m2 5; have f6 := frozenAt m2 6)
        | (go_at_call 94; refine (B1.out _ ?_).mono ?_; exact fW; rintro e w1 ⟨rfl, k1, g1⟩; have g1' : W.grownBy w1 (some p) := (by first | exact g1 | exact grown_drew g1); have m1 := grown_at g1' n0 hne0; have p0 := cellsAt m1 0; have p1 := cellsAt m1 1; have p7 := cellsAt m1 7; have p8 := cellsAt m1 8; have p9 := cellsAt m1 9; simp only [List.getElem?_toArray, List.getElem?_cons_zero, List.getElem?_cons_succ] at p0 p1 p7 p8 p9))
      all_goals (
        go_wp2_with fail
        go_meet
        have q6 : (w2.setCell ⟨w.heap.size, 6, none⟩ (.string Y)).heap[w.heap.size]? = some (.cells #[.int .i64 (x.pl : Int), .int .i64 (x.en : Int), .int .i64 (x.la : Int), .int .i64 (x.id : Int), .int .i64 0, .int .i64 0, .string Y, .pointer (some ⟨p, 0, none⟩), .int .i64 (x.v.b : Int), .int .i64 (x.v.s : Int)] 170 (0, 0)) := setCell_row m2 _
        have q5 := setCell_row (i := 5) q6 (.int .i64 r.2.1)
        have q4 := setCell_row (i := 4) q5 (.int .i64 r.2.2)
        have gs : w2.grownBy (((w2.setCell ⟨w.heap.size, 6, none⟩ (.string Y)).setCell ⟨w.heap.size, 5, none⟩ (.int .i64 r.2.1)).setCell ⟨w.heap.size, 4, none⟩ (.int .i64 r.2.2)) (some w.heap.size) := grown_set (grown_set (grown_set (World.grownBy.refl _ _) _ _) _ _) _ _
        have ga := grown_row (grown_trans (grown_trans gW g1') (grown_below (some p) hb2)) gs (fun j hj => by cases hj; exact Nat.le_refl _)
        have fa := grown_at gs k2 (by omega)
        have ra := grown_at gs (at_below (grown_at g1' n1 (by omega)) hb2) (by omega)
        exact ⟨⟨ga.os, ga.tape, ga.output, ga.size, ga.block⟩, fa, q4, ra⟩)
    case rest =>
      obtain ⟨gc, kc, mc, rc⟩ := hcut
      clear y0 y1 y2 y3 y4 y5 y6 y7 y8 y9 ur0 ur1 ur2 ur3 ur4 ur5 ur6 fz0 fz1 fz2 fz3 fz4 fz5 fz6 B1 B2 n0 n1 hW
      have y0 := cellsAt mc 0
      have y1 := cellsAt mc 1
      have y2 := cellsAt mc 2
      have y3 := cellsAt mc 3
      have y4 := cellsAt mc 4
      have y5 := cellsAt mc 5
      have y6 := cellsAt mc 6
      have ur0 := cellsAt rc 0
      have ur1 := cellsAt rc 1
      have ur2 := cellsAt rc 2
      have ur3 := cellsAt rc 3
      have ur4 := cellsAt rc 4
      have ur5 := cellsAt rc 5
      have ur6 := cellsAt rc 6
      have fz0 := frozenAt rc 0
      have fz1 := frozenAt rc 1
      have fz2 := frozenAt rc 2
      have fz3 := frozenAt rc 3
      have fz4 := frozenAt rc 4
      have fz5 := frozenAt rc 5
      have fz6 := frozenAt rc 6
      simp only [List.getElem?_toArray, List.getElem?_cons_zero, List.getElem?_cons_succ] at y0 y1 y2 y3 y4 y5 y6 ur0 ur1 ur2 ur3 ur4 ur5 ur6
      go_wp2
      obtain ⟨zr, zf, zg⟩ := end7 (w := w) (.int .i64 (x.pl : Int)) (.int .i64 (x.en : Int)) (.int .i64 (x.la : Int)) (.int .i64 (x.id : Int)) (.int .i64 r.2.2) (.int .i64 r.2.1) (.string Y) rc (by omega) (by omega) kc gc
      have z0 := cellsAt zr 0
      have z1 := cellsAt zr 1
      have z2 := cellsAt zr 2
      have z3 := cellsAt zr 3
      have z4 := cellsAt zr 4
      have z5 := cellsAt zr 5
      have z6 := cellsAt zr 6
      simp only [List.getElem?_toArray, List.getElem?_cons_zero, List.getElem?_cons_succ] at z0 z1 z2 z3 z4 z5 z6
      exact bodyPost_ret (v := .agg #[.int .i64 (x.pl : Int), .int .i64 (x.en : Int), .int .i64 (x.la : Int), .int .i64 (x.id : Int), .int .i64 r.2.2, .int .i64 r.2.1, .string Y]) (by simp [results, Tryz.results120, go_sem, z0, z1, z2, z3, z4, z5, z6]) rfl ⟨rfl, zf, zg⟩
  · have e0 : (toldP limit x).run D m = (⟨x.pl, x.en, x.la, x.id, x.st, 0, ⟨#[]⟩⟩, m) := by unfold toldP; rw [if_neg h0]; rfl
    rw [e0] at hr
    cases hr
    have d0 : ¬ ((x.st : Int) = 0) := by omega
    clear h he hbW eW e0
    go_enter Tryz.func120, Tryz.ntmps120
    go_wp2
    obtain ⟨zr, zf, zg⟩ := end7 (w := w) (.int .i64 (x.pl : Int)) (.int .i64 (x.en : Int)) (.int .i64 (x.la : Int)) (.int .i64 (x.id : Int)) (.int .i64 (x.st : Int)) (.int .i64 0) (.string ⟨#[]⟩) n1 (by omega) (by omega) fW gW
    have z0 := cellsAt zr 0
    have z1 := cellsAt zr 1
    have z2 := cellsAt zr 2
    have z3 := cellsAt zr 3
    have z4 := cellsAt zr 4
    have z5 := cellsAt zr 5
    have z6 := cellsAt zr 6
    simp only [List.getElem?_toArray, List.getElem?_cons_zero, List.getElem?_cons_succ] at z0 z1 z2 z3 z4 z5 z6
    exact bodyPost_ret (v := .agg #[.int .i64 (x.pl : Int), .int .i64 (x.en : Int), .int .i64 (x.la : Int), .int .i64 (x.id : Int), .int .i64 (x.st : Int), .int .i64 0, .string ⟨#[]⟩]) (by simp [results, Tryz.results120, go_sem, z0, z1, z2, z3, z4, z5, z6]) rfl ⟨rfl, zf, zg⟩
end Go.Proofs.YteibjmlimcpaoaaGreatDoor.W

set_option linter.unusedVariables false
set_option linter.unusedSimpArgs false
namespace Go.Proofs.YteibjmlimcpaoaaGreatDoor.W
open Go.RowKit Go.Sort

/-- the cells of names, their texts not yet read -/
def mcells (p : Nat) : List Nw → List Value
  | [] => []
  | x :: l => .int .i64 x.pl :: .int .i64 x.en :: .int .i64 x.la :: .int .i64 x.id :: .int .i64 x.st :: .int .i64 0 :: .string ⟨#[]⟩ :: .pointer (some ⟨p, 0, none⟩) :: .int .i64 x.v.b :: .int .i64 x.v.s :: mcells p l
theorem mcells_append (p : Nat) (a b : List Nw) : mcells p (a ++ b) = mcells p a ++ mcells p b := by
  induction a with
  | nil => rfl
  | cons x a ih => simp [mcells, ih]
theorem mcells_at (p : Nat) : ∀ (l : List Nw) (k : Nat) (x : Nw), l[k]? = some x → (mcells p l)[k * 10]? = some (.int .i64 x.pl) ∧ (mcells p l)[k * 10 + 1]? = some (.int .i64 x.en) ∧ (mcells p l)[k * 10 + 2]? = some (.int .i64 x.la) ∧ (mcells p l)[k * 10 + 3]? = some (.int .i64 x.id) ∧ (mcells p l)[k * 10 + 4]? = some (.int .i64 x.st) ∧ (mcells p l)[k * 10 + 5]? = some (.int .i64 0) ∧ (mcells p l)[k * 10 + 6]? = some (.string ⟨#[]⟩) ∧ (mcells p l)[k * 10 + 7]? = some (.pointer (some ⟨p, 0, none⟩)) ∧ (mcells p l)[k * 10 + 8]? = some (.int .i64 x.v.b) ∧ (mcells p l)[k * 10 + 9]? = some (.int .i64 x.v.s)
  | [], k, x, h => by simp at h
  | y :: l, 0, x, h => by
    simp at h
    subst h
    simp [mcells]
  | y :: l, k + 1, x, h => by
    simp only [List.getElem?_cons_succ] at h
    have := mcells_at p l k x h
    rw [show (k + 1) * 10 = k * 10 + 10 by omega]
    simp only [mcells]
    exact this
/-- a row of names, in new memory -/
def NamsAt (B p : Nat) (l : List Nw) (V : Value) (w : World) : Prop := w.ownsRow B 170 10 V l.length (mcells p l)
theorem nam_cells {B p : Nat} {l : List Nw} {g cap n : Nat} {w : World} (h : NamsAt B p l (.slice (some ⟨g, 0, none⟩) n cap) w) (k : Nat) (x : Nw) (hk : l[k]? = some x) :
    w.cell? ⟨g, k * 10, none⟩ = some (.int .i64 x.pl) ∧ w.cell? ⟨g, k * 10 + 1, none⟩ = some (.int .i64 x.en) ∧ w.cell? ⟨g, k * 10 + 2, none⟩ = some (.int .i64 x.la) ∧ w.cell? ⟨g, k * 10 + 3, none⟩ = some (.int .i64 x.id) ∧ w.cell? ⟨g, k * 10 + 4, none⟩ = some (.int .i64 x.st) ∧ w.cell? ⟨g, k * 10 + 5, none⟩ = some (.int .i64 0) ∧ w.cell? ⟨g, k * 10 + 6, none⟩ = some (.string ⟨#[]⟩) ∧ w.cell? ⟨g, k * 10 + 7, none⟩ = some (.pointer (some ⟨p, 0, none⟩)) ∧ w.cell? ⟨g, k * 10 + 8, none⟩ = some (.int .i64 x.v.b) ∧ w.cell? ⟨g, k * 10 + 9, none⟩ = some (.int .i64 x.v.s) := by
  obtain ⟨c0, c1, c2, c3, c4, c5, c6, c7, c8, c9⟩ := mcells_at p l k x hk
  have q : ∀ j u, (mcells p l)[j]? = some u → w.cell? ⟨g, j, none⟩ = some u := by
    intro j u hj
    have := h.cells rfl j u hj
    rw [addr_add, Nat.zero_add] at this
    exact this
  exact ⟨q _ _ c0, q _ _ c1, q _ _ c2, q _ _ c3, q _ _ c4, q _ _ c5, q _ _ c6, q _ _ c7, q _ _ c8, q _ _ c9⟩
/-- what naming answers -/
def nsv (p : Nat) (ns : Ns) (V : Value) : Value := .agg #[.int .i64 ns.st, .pointer (if ns.here then some ⟨p, 0, none⟩ else none), .int .i64 ns.ahead.b, .int .i64 ns.ahead.s, V]
theorem tolds_step (D : List UInt8) (limit : Int) (x : Nw) (l : List Nw) (acc : List Nm) (m M : Mt) (y : Nm) (h : (toldP limit x).run D m = (y, M)) : (toldsP limit (x :: l) acc).run D m = (toldsP limit l (acc ++ [y])).run D M := by
  rw [toldsP, Pr.run_bind, h]

set_option maxRecDepth 100000 in
set_option maxHeartbeats 4000000 in
theorem nstoldW (p B : Nat) (limit : Int) (ns : Ns) (VL : Value) (P : Pol) (T I : Value) (m : Mt) (D : List UInt8) (w : World) (hpB : p < B) (hB : B ≤ w.heap.size) (hns : SB D.length ns) (hD : D.length ≤ 2000) (hm : MOk m) (h : FlAt p m D w) (he : En P T I p w) (hl : NamsAt B p ns.list VL w) (L : List Nm) (M : Mt) (hr : (toldsP limit ns.list []).run D m = (L, M)) :
    Calls Tryz.prog 81 #[nsv p ns VL, .int .i64 limit] w fun e w' => ∃ V, e = .returned V ∧ w'.ownsRow w.heap.size 72 7 V L.length (ncells L) ∧ FlAt p M D w' ∧ w.grownBy w' (some p) := by
  obtain ⟨i0, hi, hz0, hz1, hz2⟩ := info_parts infoN
  have hlt := fl_lt h
  have hlen := hns.len
  obtain ⟨ao, cap, rfl⟩ := own_slice hl
  obtain ⟨W, hW⟩ : ∃ W, w.alloc (.cells #[.int .i64 (ns.st : Int), .pointer (if ns.here then some ⟨p, 0, none⟩ else none), .int .i64 (ns.ahead.b : Int), .int .i64 (ns.ahead.s : Int), .slice ao ns.list.length cap] 137) = W := ⟨_, rfl⟩
  have hbW : Below w.heap.size w W := by rw [← hW]; exact below_alloc _ _
  have gW : w.grownBy W (some p) := grown_below _ hbW
  have fW : FlAt p m D W := fl_below h hbW
  have n0 : W.heap[w.heap.size]? = some (.cells #[.int .i64 (ns.st : Int), .pointer (if ns.here then some ⟨p, 0, none⟩ else none), .int .i64 (ns.ahead.b : Int), .int .i64 (ns.ahead.s : Int), .slice ao ns.list.length cap] 137 (0, 0)) := by rw [← hW]; exact new_at _ _
  have y4 := cellsAt n0 4
  simp only [List.getElem?_toArray, List.getElem?_cons_zero, List.getElem?_cons_succ] at y4
  have HL := Lib.hid hl
  have HE := Lib.hid he
  have HN := Lib.hid hns
  have HR := Lib.hid hr
  unfold nsv
  generalize (if ns.here = true then some (⟨p, 0, none⟩ : Addr) else none) = q0 at *
  clear hr h he hl hns n0
  go_enter Tryz.func81, Tryz.ntmps81
  go_wp2
  clear y4 hW
  go_loopw [5, 11] (fun os is wr => ∃ (k : Nat) (mm : Mt) (acc : List Nm), is = .int .i64 (k : Int) ∧ k ≤ ns.list.length ∧ Hid (acc.length = k) ∧ MOk mm ∧ FlAt p mm D wr ∧ w.grownBy wr (some p) ∧ wr.ownsRow w.heap.size 72 7 os k (ncells acc) ∧ Hid ((toldsP limit (ns.list.drop k) acc).run D mm = (L, M))) (fun _ is _ => ns.list.length - (intOf is).toNat)
  case atStart => exact ⟨0, m, [], rfl, Nat.zero_le _, rfl, hm, fW, gW, World.ownsRow_nil _ _ _ _, HR.out⟩
  case round =>
    obtain ⟨k, mm, acc, rfl, hk, hacc, hmm, hff, hg, hown, H⟩ := hrel
    have hsW := hbW.size
    have hsz := hg.size
    by_cases hklt : k < ns.list.length
    · obtain ⟨x, hxk⟩ : ∃ x, ns.list[k]? = some x := ⟨_, List.getElem?_eq_getElem hklt⟩
      have own1 : NamsAt B p ns.list (.slice ao ns.list.length cap) wr := HL.out.kept hg (own_ne_old HL.out hpB)
      obtain ⟨g, cap', cs, hve, hbg, hgg⟩ := own_form own1 (by omega)
      cases hve
      obtain ⟨c0, c1, c2, c3, c4, c5, c6, c7, c8, c9⟩ := nam_cells own1 k x hxk
      obtain ⟨y, m1, hy⟩ : ∃ y m1, (toldP limit x).run D mm = (y, m1) := ⟨_, _, rfl⟩
      have mk1 : MOk m1 := by have := MOk.run D (toldP limit x) hmm; rw [hy] at this; exact this
      have hs := H.out
      rw [List.drop_eq_getElem_cons hklt, show ns.list[k] = x from Option.some.inj ((List.getElem?_eq_getElem hklt).symm.trans hxk), tolds_step D limit x _ acc mm m1 y hy] at hs
      have HS := Lib.hid hs
      have hnb := HN.out.list x (List.mem_of_getElem? hxk)
      have ik : (k : Int) < (ns.list.length : Int) := by omega
      have ik0 : (0 : Int) ≤ (k : Int) := by omega
      obtain ⟨W2, hW2⟩ : ∃ W2, wr.alloc (.cells #[.int .i64 (x.pl : Int), .int .i64 (x.en : Int), .int .i64 (x.la : Int), .int .i64 (x.id : Int), .int .i64 (x.st : Int), .int .i64 0, .string ⟨#[]⟩, .pointer (some ⟨p, 0, none⟩), .int .i64 (x.v.b : Int), .int .i64 (x.v.s : Int)] 170) = W2 := ⟨_, rfl⟩
      have b2 : Below wr.heap.size wr W2 := by rw [← hW2]; exact below_alloc _ _
      have f2 := fl_below hff b2
      have g2 := grown_trans hg (grown_below (some p) b2)
      have own2 := own_any hown b2
      have n2 : W2.heap[wr.heap.size]? = some (.cells #[.int .i64 (x.pl : Int), .int .i64 (x.en : Int), .int .i64 (x.la : Int), .int .i64 (x.id : Int), .int .i64 (x.st : Int), .int .i64 0, .string ⟨#[]⟩, .pointer (some ⟨p, 0, none⟩), .int .i64 (x.v.b : Int), .int .i64 (x.v.s : Int)] 170 (0, 0)) := by rw [← hW2]; exact new_at _ _
      have A := Lib.hid (ntoldW p limit x P T I mm D W2 hnb hD hmm f2 (HE.out.grow g2) y m1 hy)
      clear hs H hy hnb own1 hgg hxk
      have y0 := cellsAt n2 0
      have y1 := cellsAt n2 1
      have y2 := cellsAt n2 2
      have y3 := cellsAt n2 3
      have y4 := cellsAt n2 4
      have y5 := cellsAt n2 5
      have y6 := cellsAt n2 6
      have y7 := cellsAt n2 7
      have y8 := cellsAt n2 8
      have y9 := cellsAt n2 9
      simp only [List.getElem?_toArray, List.getElem?_cons_zero, List.getElem?_cons_succ] at y0 y1 y2 y3 y4 y5 y6 y7 y8 y9
      unfold nv nmv at A
      obtain ⟨oa, oc, rfl⟩ := own_slice hown
      obtain ⟨pl, en, la, id, st, ms, tx⟩ := y
      simp only at A
      have hB7 : ncells [⟨pl, en, la, id, st, ms, tx⟩] = [.int .i64 pl, .int .i64 en, .int .i64 la, .int .i64 id, .int .i64 st, .int .i64 ms, .string tx] := rfl
      have HB := Lib.hid hB7
      clear hB7
      subst hW2
      go_wp2_with (go_at_call 120; refine A.out.mono ?_; rintro e w3 ⟨rfl, k3, g3⟩; refine Hid.out ?_)
      have own3 := own_kept_g own2 g3 (by omega)
      have g4 := grown_trans g2 g3
      have sz3 : w.heap.size ≤ w3.heap.size := Nat.le_trans hsz (Nat.le_trans b2.size g3.size)
      clear y0 y1 y2 y3 y4 y5 y6 y7 y8 y9 c0 c1 c2 c3 c4 c5 c6 c7 c8 c9 A own2 n2 f2 g2 g3 b2
      refine Lib.hid ?_
      go_wp2_with (at_builtin; refine wpList_append_own _ rfl _ _ 35 rfl w.heap.size 72 i0 (.agg #[.int .i64 0, .int .i64 0, .int .i64 0, .int .i64 0, .int .i64 0, .int .i64 0, .string ⟨#[]⟩]) 7 64 Tryz.underlying35 hi hz0 hz1 hz2 rfl (by decide) _ _ _ rfl (own3.alloc _) ⟨w3.heap.size, 0, none⟩ 1 1 [.int .i64 pl, .int .i64 en, .int .i64 la, .int .i64 id, .int .i64 st, .int .i64 ms, .string tx] rfl rfl (newCells _ _ _) (fun x hx => by simp at hx; rcases hx with rfl | rfl | rfl | rfl | rfl | rfl | rfl <;> rfl) (by unfold maxLen; omega) (by omega) (by simp; omega) ?_; intro v' w4 hown' hgrow4 hnil4; refine Hid.out ?_)
      have own4 : w4.ownsRow w.heap.size 72 7 v' (k + 1) (ncells (acc ++ [⟨pl, en, la, id, st, ms, tx⟩])) := by
        rw [ncells_append]
        exact hown'
      have k4 : FlAt p m1 D w4 := (hgrow4.block p (by have := fl_lt k3; simp; omega) (fun e => by have := (own3.lt p e.symm).1; omega)).trans (fl_alloc k3 _)
      have g5 : w.grownBy w4 (some p) := grown_row (grown_trans g4 (World.grownBy_alloc _ _ _)) hgrow4 (fun j hj => (own3.lt j hj).1)
      clear hown' hgrow4 hnil4 own3 g4 k3
      refine Lib.hid ?_
      go_wp2
      exact ⟨⟨k + 1, m1, acc ++ [⟨pl, en, la, id, st, ms, tx⟩], by go_num, by omega, (by show _ = _; rw [List.length_append, hacc.out]; rfl), mk1, k4, g5, own4, HS⟩, by simp [intOf]; omega⟩
    · have hs := H.out
      rw [List.drop_eq_nil_of_le (by omega), toldsP] at hs
      simp only [Pr.run] at hs
      cases hs
      have ik : ¬ ((k : Int) < (ns.list.length : Int)) := by omega
      obtain ⟨oa, oc, rfl⟩ := own_slice hown
      have hkn := hacc.out
      have HO := Lib.hid hown
      have gE := hg
      clear hown H
      go_wp2
      go_ret
      exact ⟨_, rfl, by first | exact HO.out | (rw [hkn]; exact HO.out), hff, gE⟩
end Go.Proofs.YteibjmlimcpaoaaGreatDoor.W

set_option linter.unusedVariables false
set_option linter.unusedSimpArgs false
namespace Go.Proofs.YteibjmlimcpaoaaGreatDoor.W
open Go.RowKit Go.Sort

theorem add_bounds (D : List UInt8) (P : Pol) (n e : Nat) (l : List Tw) (r : Wn) (m : Mt) (hn : n ≤ 2000) : ∃ x M, (addP P n e l r).run D m = (l ++ [x], M) ∧ x.st ≤ 4 ∧ x.v.b ≤ 2000 ∧ x.v.s ≤ 2000 := by
  obtain ⟨tag, m1, h1⟩ : ∃ tag m1, (r.cut 0 4).bytes.run D m = (tag, m1) := ⟨_, _, rfl⟩
  obtain ⟨b, m2, h2⟩ : ∃ b m2, (r.four 8).run D m1 = (b, m2) := ⟨_, _, rfl⟩
  obtain ⟨s, m3, h3⟩ : ∃ s m3, (r.four 12).run D m2 = (s, m3) := ⟨_, _, rfl⟩
  obtain ⟨inside, h4⟩ : ∃ inside, (decide (e ≤ b) && holdsB n b s) = inside := ⟨_, rfl⟩
  obtain ⟨v, h5⟩ : ∃ v, (if inside = true then (⟨b, s⟩ : Wn) else ⟨0, 0⟩) = v := ⟨_, rfl⟩
  obtain ⟨st, M, h6⟩ : ∃ st M, (statusP P l tag v inside).run D m3 = (st, M) := ⟨_, _, rfl⟩
  refine ⟨_, _, add_run D P n e l r m tag b s st m1 m2 m3 M inside v h1 h2 h3 h4 h5 h6, ?_, ?_⟩
  · rw [status_run] at h6
    have := congrArg Prod.fst h6
    simp only
    rw [← show _ = st from this]
    repeat' split
    all_goals (simp only; try omega)
    all_goals (repeat' split)
    all_goals omega
  · simp only
    rw [← h5]
    cases inside with
    | false => simp
    | true =>
      simp only [Bool.and_eq_true, decide_eq_true_eq, holdsB] at h4
      simp only [if_true]
      omega
theorem adds_step (D : List UInt8) (P : Pol) (n : Nat) (recs : Wn) (k i : Nat) (l l' : List Tw) (m M : Mt) (h : (addP P n (recs.b + recs.s) l (recs.cut (16 * i) 16)).run D m = (l', M)) : (addsP P n recs (k + 1) i l).run D m = (addsP P n recs k (i + 1) l').run D M := by
  rw [addsP, Pr.run_bind, h]
/-- what open answers -/
def dv (p : Nat) (d : Dir) (VT : Value) : Value := .agg #[.int .i64 d.kind, .pointer (if d.here then some ⟨p, 0, none⟩ else none), .pointer (if d.here then some ⟨p, 0, none⟩ else none), .int .i64 d.recs.b, .int .i64 d.recs.s, VT]
theorem open_run (D : List UInt8) (P : Pol) (n : Nat) (m m1 m2 : Mt) (o : List UInt8) (c : Nat) (h : ¬ n < 12) (h1 : (Wn.bytes ⟨0, 4⟩).run D m = (o, m1)) (h2 : (Wn.two ⟨0, 12⟩ 4).run D m1 = (c, m2)) :
    (openP P n).run D m = if kindOf o = 1 ∨ kindOf o = 2 then (if 16 < c ∨ holdsB n 12 (16 * c) = false then (⟨0, false, ⟨0, 0⟩, []⟩, m2) else (⟨kindOf o, true, ⟨12, 16 * c⟩, ((addsP P n ⟨12, 16 * c⟩ c 0 []).run D m2).1⟩, ((addsP P n ⟨12, 16 * c⟩ c 0 []).run D m2).2)) else (⟨kindOf o, false, ⟨0, 0⟩, []⟩, m1) := by
  unfold openP
  rw [if_neg h, Pr.run_bind, h1]
  simp only
  split
  · rw [Pr.run_bind, h2]
    simp only
    split
    · rfl
    · rw [Pr.run_bind]
      rfl
  · rfl
theorem own_lower {w : World} {B B' e size n : Nat} {v : Value} {xs : List Value} (h : w.ownsRow B e size v n xs) (hB : B' ≤ B) : w.ownsRow B' e size v n xs := by
  obtain ⟨h1, h2⟩ := h
  refine ⟨h1, ?_⟩
  rcases h2 with h2 | ⟨g, cap, cur, hv, hb, h3⟩
  · exact .inl h2
  · exact .inr ⟨g, cap, cur, hv, Nat.le_trans hB hb, h3⟩
/-- six cells of a result -/
theorem end6 {w w1 : World} {p k : Nat} {m : Mt} {D : List UInt8} {x0 x1 x2 x3 x4 x5 : Value} (v0 v1 v2 v3 v4 v5 : Value) {T : TypeId} (q : w1.heap[k]? = some (.cells #[x0, x1, x2, x3, x4, x5] T (0, 0))) (hk : w.heap.size ≤ k) (hpk : p ≠ k) (hf : FlAt p m D w1) (g : w.grownBy w1 (some p)) :
    ((((((w1.setCell ⟨k, 0, none⟩ v0).setCell ⟨k, 1, none⟩ v1).setCell ⟨k, 2, none⟩ v2).setCell ⟨k, 3, none⟩ v3).setCell ⟨k, 4, none⟩ v4).setCell ⟨k, 5, none⟩ v5).heap[k]? = some (.cells #[v0, v1, v2, v3, v4, v5] T (0, 0)) ∧ FlAt p m D ((((((w1.setCell ⟨k, 0, none⟩ v0).setCell ⟨k, 1, none⟩ v1).setCell ⟨k, 2, none⟩ v2).setCell ⟨k, 3, none⟩ v3).setCell ⟨k, 4, none⟩ v4).setCell ⟨k, 5, none⟩ v5) ∧ w.grownBy ((((((w1.setCell ⟨k, 0, none⟩ v0).setCell ⟨k, 1, none⟩ v1).setCell ⟨k, 2, none⟩ v2).setCell ⟨k, 3, none⟩ v3).setCell ⟨k, 4, none⟩ v4).setCell ⟨k, 5, none⟩ v5) (some p) ∧ w1.grownBy ((((((w1.setCell ⟨k, 0, none⟩ v0).setCell ⟨k, 1, none⟩ v1).setCell ⟨k, 2, none⟩ v2).setCell ⟨k, 3, none⟩ v3).setCell ⟨k, 4, none⟩ v4).setCell ⟨k, 5, none⟩ v5) (some k) := by
  have q0 : (w1.setCell ⟨k, 0, none⟩ v0).heap[k]? = some (.cells #[v0, x1, x2, x3, x4, x5] T (0, 0)) := setCell_row q v0
  have q1 := setCell_row (i := 1) q0 v1
  have q2 := setCell_row (i := 2) q1 v2
  have q3 := setCell_row (i := 3) q2 v3
  have q4 := setCell_row (i := 4) q3 v4
  have q5 := setCell_row (i := 5) q4 v5
  have gs : w1.grownBy ((((((w1.setCell ⟨k, 0, none⟩ v0).setCell ⟨k, 1, none⟩ v1).setCell ⟨k, 2, none⟩ v2).setCell ⟨k, 3, none⟩ v3).setCell ⟨k, 4, none⟩ v4).setCell ⟨k, 5, none⟩ v5) (some k) := grown_set (grown_set (grown_set (grown_set (grown_set (grown_set (World.grownBy.refl _ _) _ _) _ _) _ _) _ _) _ _) _ _
  exact ⟨q5, grown_at gs hf hpk, grown_row g gs (fun j hj => by cases hj; exact hk), gs⟩

set_option maxRecDepth 100000 in
set_option maxHeartbeats 4000000 in
theorem openW (p : Nat) (P : Pol) (T I : Value) (m : Mt) (D : List UInt8) (w : World) (h8 : P.tags.length ≤ 8) (hD : D.length ≤ 2000) (hm : MOk m) (h : FlAt p m D w) (he : En P T I p w) (d : Dir) (M : Mt) (hr : (openP P D.length).run D m = (d, M)) :
    Calls Tryz.prog 70 #[pv T I P.text, .pointer (some ⟨p, 0, none⟩)] w fun e w' => ∃ VT, e = .returned (dv p d VT) ∧ TabsAt w.heap.size p d.tabs VT w' ∧ FlAt p M D w' ∧ w.grownBy w' (some p) := by
  have hlt := fl_lt h
  have hs1 := he.pol.tags
  have hs2 := he.pol.ids
  obtain ⟨ta, tc, hTe, _⟩ := hs1
  obtain ⟨ia, ic, hIe, _⟩ := hs2
  subst hTe hIe
  obtain ⟨W, hW⟩ : ∃ W, (w.alloc (.cells #[.slice ta P.tags.length tc, .slice ia P.ids.length ic, .int .i64 P.text] 25)).alloc (.cells #[.int .i64 0, .pointer none, .pointer none, .int .i64 0, .int .i64 0, .slice none 0 0] 130) = W := ⟨_, rfl⟩
  have hbW : Below w.heap.size w W := by rw [← hW]; exact (below_alloc _ _).alloc (by simp) _
  have gW : w.grownBy W (some p) := grown_below _ hbW
  have fW : FlAt p m D W := fl_below h hbW
  have eW := he.grow gW
  have sW : W.heap.size = w.heap.size + 2 := by rw [← hW]; simp
  have n0 : W.heap[w.heap.size]? = some (.cells #[.slice ta P.tags.length tc, .slice ia P.ids.length ic, .int .i64 P.text] 25 (0, 0)) := by rw [← hW]; exact at_alloc (new_at _ _)
  have n1 : W.heap[w.heap.size + 1]? = some (.cells #[.int .i64 0, .pointer none, .pointer none, .int .i64 0, .int .i64 0, .slice none 0 0] 130 (0, 0)) := by
    rw [← hW]
    have := new_at (w.alloc (.cells #[.slice ta P.tags.length tc, .slice ia P.ids.length ic, .int .i64 P.text] 25)) (.cells #[.int .i64 0, .pointer none, .pointer none, .int .i64 0, .int .i64 0, .slice none 0 0] 130)
    simpa using this
  have A1 := Lib.hid (fwinW p m D 0 12 W hD (by omega) (by omega) fW)
  have hv0 : ((Wn.mk 0 D.length).cut 0 12).b = 0 := by unfold Wn.cut; simp
  have hv1 : ((Wn.mk 0 D.length).cut 0 12).s = min 12 D.length := by unfold Wn.cut; simp
  unfold wv at A1
  rw [hv0, hv1] at A1
  unfold pv
  have HN := Lib.hid (And.intro n0 n1)
  have HE := Lib.hid eW
  clear n0 n1 eW he h hbW
  by_cases c12 : D.length < 12
  · have e0 : (openP P D.length).run D m = (⟨0, false, ⟨0, 0⟩, []⟩, m) := by unfold openP; rw [if_pos c12]; rfl
    rw [e0] at hr
    cases hr
    rw [Nat.min_eq_right (by omega)] at A1
    have B1 := Lib.hid (fun w => tsizeW (some ⟨p, 0, none⟩) ⟨0, D.length⟩ w)
    unfold wq at B1
    simp only at B1
    have d12 : (D.length : Int) < 12 := by omega
    generalize D.length = N at *
    simp only [Int.ofNat_zero, Int.natCast_zero, Int.cast_ofNat_Int] at A1 B1
    go_enter Tryz.func70, Tryz.ntmps70
    go_wp2_with (first | (go_at_call 69; refine A1.out.mono ?_; rintro e w1 ⟨rfl, hb1⟩) | (go_at_call 91; refine (B1.out _).mono ?_; rintro e w2 ⟨rfl, hb2⟩; refine Hid.out ?_))
    obtain ⟨n0, n1⟩ := HN.out
    have bw1 := below_alloc w1 (.cells #[.pointer (some ⟨p, 0, none⟩), .int .i64 0, .int .i64 (N : Int)] 126)
    have q2 := at_below (at_below (at_below n1 hb1) bw1) hb2
    have f2 := fl_below (fl_below (fl_below fW hb1) bw1) hb2
    have g2 := grown_trans (grown_trans (grown_trans gW (grown_below (some p) hb1)) (grown_below (some p) bw1)) (grown_below (some p) hb2)
    clear hW n0 n1 HN
    have u0 := cellsAt q2 0
    have u1 := cellsAt q2 1
    have u2 := cellsAt q2 2
    have u3 := cellsAt q2 3
    have u4 := cellsAt q2 4
    have u5 := cellsAt q2 5
    have fz0 := frozenAt q2 0
    have fz1 := frozenAt q2 1
    have fz2 := frozenAt q2 2
    have fz3 := frozenAt q2 3
    have fz4 := frozenAt q2 4
    have fz5 := frozenAt q2 5
    simp only [List.getElem?_toArray, List.getElem?_cons_zero, List.getElem?_cons_succ] at u0 u1 u2 u3 u4 u5
    refine Lib.hid ?_
    go_wp2
    obtain ⟨zr, zf, zg, zs⟩ := end6 (w := w) (.int .i64 0) (.pointer none) (.pointer none) (.int .i64 0) (.int .i64 0) (.slice none 0 0) q2 (by omega) (by omega) f2 g2
    have z0 := cellsAt zr 0
    have z1 := cellsAt zr 1
    have z2 := cellsAt zr 2
    have z3 := cellsAt zr 3
    have z4 := cellsAt zr 4
    have z5 := cellsAt zr 5
    simp only [List.getElem?_toArray, List.getElem?_cons_zero, List.getElem?_cons_succ] at z0 z1 z2 z3 z4 z5
    exact bodyPost_ret (v := .agg #[.int .i64 0, .pointer none, .pointer none, .int .i64 0, .int .i64 0, .slice none 0 0]) (by simp [results, Tryz.results70, go_sem, z0, z1, z2, z3, z4, z5]) rfl ⟨.slice none 0 0, rfl, World.ownsRow_nil _ _ _ _, zf, zg⟩
  · rw [Nat.min_eq_left (by omega)] at A1
    obtain ⟨o, m1, h1⟩ : ∃ x y, (Wn.bytes ⟨0, 4⟩).run D m = (x, y) := ⟨_, _, rfl⟩
    obtain ⟨c, m2, h2⟩ : ∃ x y, (Wn.two ⟨0, 12⟩ 4).run D m1 = (x, y) := ⟨_, _, rfl⟩
    rw [open_run D P D.length m m1 m2 o c c12 h1 h2] at hr
    have mk1 : MOk m1 := by have := MOk.run D (Wn.bytes ⟨0, 4⟩) hm; rw [h1] at this; exact this
    have mk2 : MOk m2 := by have := MOk.run D (Wn.two ⟨0, 12⟩ 4) mk1; rw [h2] at this; exact this
    have hi12 : InF ⟨0, 12⟩ D := ⟨by simp only; omega, hD⟩
    have hi4 : InF ⟨0, 4⟩ D := ⟨by simp only; omega, hD⟩
    have lc := Lib.hid (show c < 65536 by have := two_lt D ⟨0, 12⟩ 4 m1; rw [h2] at this; exact this)
    have B1 := Lib.hid (fun w => tsizeW (some ⟨p, 0, none⟩) ⟨0, 12⟩ w)
    have B2 := Lib.hid (fun w => twinW (some ⟨p, 0, none⟩) ⟨0, 12⟩ 0 4 w (by simp) (by simp) (by omega) (by omega))
    have hc4 : (Wn.mk 0 12).cut 0 4 = ⟨0, 4⟩ := by unfold Wn.cut; simp
    rw [hc4] at B2
    have B3 := Lib.hid (fun w f => bytesW p ⟨0, 4⟩ m D w hi4 hm f o m1 (by rw [h1]) (by rw [h1]))
    have B4 := Lib.hid (fun w g => kindW ⟨o.toArray⟩ w g (kindOf o) rfl)
    have B5 := Lib.hid (fun w f => twoW p 4 ⟨0, 12⟩ m1 D w (by omega) hi12 mk1 f)
    rw [h2] at B5
    simp only at B5
    unfold wq at B1 B2
    unfold wv at B3 B5
    simp only [Int.ofNat_zero, Int.natCast_zero, Int.cast_ofNat_Int] at A1 B1 B2 B3 B5
    have hkd := kindOf_le o
    have HR := Lib.hid hr
    clear h1 h2 hr hc4
    generalize hkk : kindOf o = kd at *
    go_enter Tryz.func70, Tryz.ntmps70
    go_wp2_with (first | (go_at_call 69; refine A1.out.mono ?_; rintro e w1 ⟨rfl, hb1⟩; refine Hid.out ?_))
    obtain ⟨W1, hW1⟩ : ∃ W1, w1.alloc (.cells #[.pointer (some ⟨p, 0, none⟩), .int .i64 0, .int .i64 12] 126) = W1 := ⟨_, rfl⟩
    have bW1 : Below w1.heap.size w1 W1 := by rw [← hW1]; exact below_alloc _ _
    have x1 : W1.heap[w1.heap.size]? = some (.cells #[.pointer (some ⟨p, 0, none⟩), .int .i64 0, .int .i64 12] 126 (0, 0)) := by rw [← hW1]; exact new_at _ _
    have bb1 : Below W.heap.size W W1 := hb1.trans (bW1.mono hb1.size)
    have y0 := cellsAt x1 0
    have y1 := cellsAt x1 1
    have y2 := cellsAt x1 2
    simp only [List.getElem?_toArray, List.getElem?_cons_zero, List.getElem?_cons_succ] at y0 y1 y2
    refine Lib.hid ?_
    go_wp2_with (first | (go_at_call 91; refine (B1.out _).mono ?_; rintro e w2 ⟨rfl, hb2⟩; refine Hid.out ?_))
    have x2 := at_below x1 hb2
    have bb2 : Below W.heap.size W w2 := bb1.trans (hb2.mono bb1.size)
    clear y0 y1 y2 hW1 hW A1 B1 x1 bW1 hb1 hb2 bb1
    have y0 := cellsAt x2 0
    have y1 := cellsAt x2 1
    have y2 := cellsAt x2 2
    simp only [List.getElem?_toArray, List.getElem?_cons_zero, List.getElem?_cons_succ] at y0 y1 y2
    refine Lib.hid ?_
    go_wp2_with (first | (go_at_call 93; refine (B2.out _).mono ?_; rintro e w3 ⟨rfl, hb3⟩) | (go_at_call 94; refine (B3.out w3 (fl_below (fl_below fW bb2) hb3)).mono ?_; rintro e w4 ⟨rfl, k4, g4⟩) | (go_at_call 92; refine (B4.out w4 ((HE.out.grow (grown_trans (grown_below (some p) (bb2.trans (hb3.mono bb2.size))) g4)).gl)).mono ?_; rintro e w5 ⟨rfl, hb5⟩; refine Hid.out ?_))
    have gW5 : W.grownBy w5 (some p) := grown_trans (grown_trans (grown_below (some p) (bb2.trans (hb3.mono bb2.size))) g4) (grown_below (some p) hb5)
    have k5 := fl_below k4 hb5
    have x5 := grown_at (grown_trans (grown_trans (grown_below (some p) hb3) g4) (grown_below (some p) hb5)) x2 (by have := fl_lt fW; have := at_lt x2; have := bb2.size; intro e; rw [e] at x2; have := (fl_below fW bb2); exact absurd (x2.symm.trans this) (by simp))
    have eE := HE.out.grow gW5
    obtain ⟨n0, n1⟩ := HN.out
    have d0 := grown_at gW5 n0 (by omega)
    have d1 := grown_at gW5 n1 (by omega)
    have gF := grown_trans gW gW5
    have hx5 : w1.heap.size ≠ p := by intro e; rw [e] at x5; exact absurd (x5.symm.trans k5) (by simp)
    clear y0 y1 y2 B2 B3 B4 x2 bb2 hb3 g4 k4 hb5 n0 n1 HN
    have y0 := cellsAt x5 0
    have y1 := cellsAt x5 1
    have y2 := cellsAt x5 2
    have t0 := eE.gl.h0
    have t1 := eE.gl.h1
    have t2 := eE.gl.h2
    have t3 := eE.gl.h3
    have u0 := cellsAt d1 0
    have u1 := cellsAt d1 1
    have u2 := cellsAt d1 2
    have u3 := cellsAt d1 3
    have u4 := cellsAt d1 4
    have u5 := cellsAt d1 5
    have fz0 := frozenAt d1 0
    have fz1 := frozenAt d1 1
    have fz2 := frozenAt d1 2
    have fz3 := frozenAt d1 3
    have fz4 := frozenAt d1 4
    have fz5 := frozenAt d1 5
    simp only [List.getElem?_toArray, List.getElem?_cons_zero, List.getElem?_cons_succ] at u0 u1 u2 u3 u4 u5
    simp only [List.getElem?_toArray, List.getElem?_cons_zero, List.getElem?_cons_succ] at y0 y1 y2
    have hr := HR.out
    have ck : kd = 0 ∨ kd = 1 ∨ kd = 2 ∨ kd = 3 := by omega
    by_cases hk12 : kd = 1 ∨ kd = 2
    · rw [if_pos hk12] at hr
      have tk : w5.cell? ⟨0, kd, none⟩ = some (.bool true) := by
        rcases hk12 with e | e
        · rw [e]; exact t1
        · rw [e]; exact t2
      have ik0 : (0 : Int) ≤ (kd : Int) := by omega
      have ik1 : (kd : Int) < 4 := by omega
      clear t0 t1 t2 t3 ck u0 u1 u2 u3 u4 u5 fz0 fz1 fz2 fz3 fz4 fz5
      refine Lib.hid ?_
      go_wp2_with (go_at_call 95; refine (B5.out _ k5).mono ?_; rintro e w6 ⟨rfl, k6, g6⟩; refine Hid.out ?_)
      have e0 := grown_at g6 d0 (by omega)
      have e1 := grown_at g6 d1 (by omega)
      have gG := grown_trans gF g6
      have gWG := grown_trans gW5 g6
      have eG := HE.out.grow gWG
      have C1 := Lib.hid (fun (s : Nat) (hs : s < 100000000) => fholdsW p m2 D 12 s w6 hD (by omega) (by omega) k6)
      have C2 := Lib.hid (fun (s : Nat) (hs : s < 100000000) => fwinW p m2 D 12 s w6 hD (by omega) (by omega) k6)
      clear y0 y1 y2 tk B5 d0 d1 gF gW5 x5 k5 eE HE
      have u0 := cellsAt e1 0
      have u1 := cellsAt e1 1
      have u2 := cellsAt e1 2
      have u3 := cellsAt e1 3
      have u4 := cellsAt e1 4
      have u5 := cellsAt e1 5
      have fz0 := frozenAt e1 0
      have fz1 := frozenAt e1 1
      have fz2 := frozenAt e1 2
      have fz3 := frozenAt e1 3
      have fz4 := frozenAt e1 4
      have fz5 := frozenAt e1 5
      simp only [List.getElem?_toArray, List.getElem?_cons_zero, List.getElem?_cons_succ] at u0 u1 u2 u3 u4 u5
      by_cases h16 : 16 < c
      · rw [if_pos (.inl h16)] at hr
        cases hr
        have d16 : (16 : Int) < (c : Int) := by omega
        clear C1 C2 HR
        refine Lib.hid ?_
        go_wp2
        obtain ⟨zr, zf, zg, zs⟩ := end6 (w := w) (.int .i64 0) (.pointer none) (.pointer none) (.int .i64 0) (.int .i64 0) (.slice none 0 0) e1 (by omega) (by omega) k6 gG
        have z0 := cellsAt zr 0
        have z1 := cellsAt zr 1
        have z2 := cellsAt zr 2
        have z3 := cellsAt zr 3
        have z4 := cellsAt zr 4
        have z5 := cellsAt zr 5
        simp only [List.getElem?_toArray, List.getElem?_cons_zero, List.getElem?_cons_succ] at z0 z1 z2 z3 z4 z5
        exact bodyPost_ret (v := .agg #[.int .i64 0, .pointer none, .pointer none, .int .i64 0, .int .i64 0, .slice none 0 0]) (by simp [results, Tryz.results70, go_sem, z0, z1, z2, z3, z4, z5]) rfl ⟨.slice none 0 0, rfl, World.ownsRow_nil _ _ _ _, zf, zg⟩
      · have d16 : ¬ ((16 : Int) < (c : Int)) := by omega
        have D1 := Lib.hid (C1.out (16 * c) (by omega))
        have D2 := Lib.hid (C2.out (16 * c) (by omega))
        obtain ⟨Q, hQ⟩ : ∃ Q : Int, ((16 * c : Nat) : Int) = Q := ⟨_, rfl⟩
        have nQ : 16 * (c : Int) = Q := by omega
        have hQ0 : 0 ≤ Q := by omega
        have hQ1 : Q < 1000 := by omega
        rw [hQ] at D1 D2
        cases hh : holdsB D.length 12 (16 * c) with
        | false =>
          rw [hh, if_pos (.inr rfl)] at hr
          rw [hh] at D1
          cases hr
          clear C1 C2 HR hh hQ
          refine Lib.hid ?_
          go_wp2_with (go_at_call 96; refine D1.out.mono ?_; rintro e w7 ⟨rfl, hw7⟩; have hw7 := hw7.symm; subst hw7)
          obtain ⟨zr, zf, zg, zs⟩ := end6 (w := w) (.int .i64 0) (.pointer none) (.pointer none) (.int .i64 0) (.int .i64 0) (.slice none 0 0) e1 (by omega) (by omega) k6 gG
          have z0 := cellsAt zr 0
          have z1 := cellsAt zr 1
          have z2 := cellsAt zr 2
          have z3 := cellsAt zr 3
          have z4 := cellsAt zr 4
          have z5 := cellsAt zr 5
          simp only [List.getElem?_toArray, List.getElem?_cons_zero, List.getElem?_cons_succ] at z0 z1 z2 z3 z4 z5
          exact bodyPost_ret (v := .agg #[.int .i64 0, .pointer none, .pointer none, .int .i64 0, .int .i64 0, .slice none 0 0]) (by simp [results, Tryz.results70, go_sem, z0, z1, z2, z3, z4, z5]) rfl ⟨.slice none 0 0, rfl, World.ownsRow_nil _ _ _ _, zf, zg⟩
        | true =>
          rw [hh, if_neg (by rintro (x | x); exact h16 x; cases x)] at hr
          rw [hh] at D1
          have hn : 12 + 16 * c ≤ D.length := by simp only [holdsB, decide_eq_true_eq] at hh; omega
          have hcut : (Wn.mk 0 D.length).cut 12 (16 * c) = ⟨12, 16 * c⟩ := by
            unfold Wn.cut
            simp only [Nat.zero_add]
            rw [Nat.min_eq_left (by omega), Nat.min_eq_left (by omega)]
          rw [hcut] at D2
          unfold wv at D2
          simp only at D2
          rw [hQ] at D2
          obtain ⟨l, M', hrun⟩ : ∃ l M', (addsP P D.length ⟨12, 16 * c⟩ c 0 []).run D m2 = (l, M') := ⟨_, _, rfl⟩
          rw [hrun] at hr
          simp only at hr
          cases hr
          have HRun := Lib.hid hrun
          have hrc : InF ⟨12, 16 * c⟩ D := ⟨by simp only; omega, hD⟩
          clear C1 C2 HR hh hcut hrun
          simp only [Int.ofNat_zero, Int.natCast_zero, Int.cast_ofNat_Int] at D2
          refine Lib.hid ?_
          go_wp2_with (first | (go_at_call 96; refine D1.out.mono ?_; rintro e w7 ⟨rfl, hw7⟩; have hw7 := hw7.symm; subst hw7) | (go_at_call 69; refine D2.out.mono ?_; rintro e w8 ⟨rfl, hb8⟩; refine Hid.out ?_))
          have k8 := fl_below k6 hb8
          have e8 := at_below e0 hb8
          have e9 := at_below e1 hb8
          have gH := grown_trans gG (grown_below (some p) hb8)
          have eH := eG.below hb8
          obtain ⟨W9, hW9⟩ : ∃ W9, w8.alloc (.cells #[.int .i64 (kd : Int), .pointer (some ⟨p, 0, none⟩), .pointer (some ⟨p, 0, none⟩), .int .i64 12, .int .i64 Q, .slice none 0 0] 130) = W9 := ⟨_, rfl⟩
          have S9 : Sd w8 w8.heap.size kd p ⟨12, 16 * c⟩ (.slice none 0 0) [] P (.slice ta P.tags.length tc) (.slice ia P.ids.length ic) D m2 W9 := by
            rw [← hW9]
            refine ⟨fl_lt k8, Nat.le_refl _, World.grownBy_alloc _ _ _, ?_, World.ownsRow_nil _ _ _ _, fl_alloc k8 _, mk2, eH.below (below_alloc _ _)⟩
            show _ = some (Obj.cells #[.int .i64 (kd : Int), .pointer (some ⟨p, 0, none⟩), .pointer (some ⟨p, 0, none⟩), .int .i64 ((12 : Nat) : Int), .int .i64 ((16 * c : Nat) : Int), .slice none 0 0] 130 (0, 0))
            rw [hQ]
            exact new_at _ _
          clear u0 u1 u2 u3 u4 u5 fz0 fz1 fz2 fz3 fz4 fz5 D1 D2 e0 e1 gG eG eH gWG
          subst hW9
          refine Lib.hid ?_
          go_wp2_with fail
          go_loopw [46] (fun is wr => ∃ (k : Nat) (mm : Mt) (ll : List Tw) (V : Value), is = .int .i64 (k : Int) ∧ k ≤ c ∧ Hid (ll.length = k) ∧ Hid (∀ t ∈ ll, t.st ≤ 4 ∧ t.v.b ≤ 2000 ∧ t.v.s ≤ 2000) ∧ Sd w8 w8.heap.size kd p ⟨12, 16 * c⟩ V ll P (.slice ta P.tags.length tc) (.slice ia P.ids.length ic) D mm wr ∧ Hid ((addsP P D.length ⟨12, 16 * c⟩ (c - k) k ll).run D mm = (l, M))) (fun is _ => c - (intOf is).toNat)
          case atStart => exact ⟨0, m2, [], _, rfl, Nat.zero_le _, rfl, (fun t ht => by simp at ht), S9, HRun.out⟩
          case round =>
            obtain ⟨k, mm, ll, V, rfl, hk, HLl, HTt, sd, H⟩ := hrel
            have c0 := grown_at sd.hg e8 (by omega)
            by_cases hklt : k < c
            · obtain ⟨x, M1, hadd, hx1, hx2, hx3⟩ := add_bounds D P D.length (12 + 16 * c) ll ((Wn.mk 12 (16 * c)).cut (16 * k) 16) mm hD
              have hs := H.out
              obtain ⟨qq, hq⟩ : ∃ q, c - k = q + 1 := ⟨c - k - 1, by omega⟩
              have hq' : c - (k + 1) = qq := by omega
              rw [hq, adds_step D P D.length ⟨12, 16 * c⟩ qq k ll (ll ++ [x]) mm M1 hadd, ← hq'] at hs
              have HS := Lib.hid hs
              have hin := cut_in hrc (16 * k) 16
              have T1 := Lib.hid (fun w => twinW (some ⟨p, 0, none⟩) ⟨12, 16 * c⟩ (16 * k) 16 w hrc.b hrc.s (by omega) (by omega))
              have T2 := Lib.hid (fun w s => addW w8 w8.heap.size kd p ⟨12, 16 * c⟩ ((Wn.mk 12 (16 * c)).cut (16 * k) 16) V ll P (.slice ta P.tags.length tc) (.slice ia P.ids.length ic) D mm w (by have := HLl.out; omega) h8 hin hrc HTt.out s x M1 hadd)
              have hT' : ∀ t ∈ ll ++ [x], t.st ≤ 4 ∧ t.v.b ≤ 2000 ∧ t.v.s ≤ 2000 := by
                intro t ht
                rcases List.mem_append.1 ht with ht | ht
                · exact HTt.out t ht
                · rw [List.mem_singleton.1 ht]; exact ⟨hx1, hx2, hx3⟩
              have HT' := Lib.hid hT'
              clear hs hq hq' H hadd HTt hin hT' hx1 hx2 hx3
              generalize (Wn.mk 12 (16 * c)).cut (16 * k) 16 = rk at *
              unfold wq at T1
              unfold wv pv at T2
              simp only at T1
              rw [hQ] at T1
              simp only [Int.ofNat_zero, Int.natCast_zero, Int.cast_ofNat_Int] at T1
              obtain ⟨J, hJ⟩ : ∃ J : Int, ((16 * k : Nat) : Int) = J := ⟨_, rfl⟩
              have nJ : 16 * (k : Int) = J := by omega
              have hJ0 : 0 ≤ J := by omega
              have hJ1 : J < 1000 := by omega
              have wJ : IntKind.i64.wrap J = J := wrapL _ (by omega) (by omega)
              rw [hJ] at T1
              clear hJ
              have ik : (k : Int) < (c : Int) := by omega
              have v2 := cellsAt sd.hd 2
              have v3 := cellsAt sd.hd 3
              have v4 := cellsAt sd.hd 4
              have o0 := cellsAt c0 0
              have o1 := cellsAt c0 1
              have o2 := cellsAt c0 2
              simp only [List.getElem?_toArray, List.getElem?_cons_zero, List.getElem?_cons_succ] at v2 v3 v4 o0 o1 o2
              rw [hQ] at v4
              simp only [Int.ofNat_zero, Int.natCast_zero, Int.cast_ofNat_Int] at v3
              have HSd := Lib.hid sd
              have HQ := Lib.hid hQ
              have HE8 := Lib.hid e8
              clear sd hQ nQ hQ0 hQ1 hv0 hv1 hn lc S9 HRun k8 e8 e9 gH c0
              go_wp2_with fail
              go_region_held3 (fun w' => w'.cell? ⟨w.heap.size, 0, none⟩ = some (.slice ta P.tags.length tc) ∧ w'.cell? ⟨w.heap.size, 1, none⟩ = some (.slice ia P.ids.length ic) ∧ w'.cell? ⟨w.heap.size, 2, none⟩ = some (.int .i64 P.text) ∧ w'.cell? ⟨w8.heap.size, 2, none⟩ = some (.pointer (some ⟨p, 0, none⟩)) ∧ w'.cell? ⟨w8.heap.size, 3, none⟩ = some (.int .i64 12) ∧ w'.cell? ⟨w8.heap.size, 4, none⟩ = some (.int .i64 Q)) (go_keep) (first
                | (go_at_call 97; refine (T2.out _ sA).mono ?_; rintro e wB ⟨rfl, V', sB⟩; have pB := grown_at sB.hg HE8.out (by omega); have b2 := cellsAt sB.hd 2; have b3 := cellsAt sB.hd 3; have b4 := cellsAt sB.hd 4; have p0 := cellsAt pB 0; have p1 := cellsAt pB 1; have p2 := cellsAt pB 2; simp only [List.getElem?_toArray, List.getElem?_cons_zero, List.getElem?_cons_succ] at b2 b3 b4 p0 p1 p2; rw [HQ.out] at b4; simp only [Int.ofNat_zero, Int.natCast_zero, Int.cast_ofNat_Int] at b3)
                | (go_at_call 93; refine (T1.out _).mono ?_; rintro e wA ⟨rfl, hbA⟩; have sA : Sd w8 w8.heap.size kd p ⟨12, 16 * c⟩ V ll P (.slice ta P.tags.length tc) (.slice ia P.ids.length ic) D mm wA := (by first | exact HSd.out.below hbA | exact (HSd.out.below (Below.refl _ _).drew).below hbA); have pA := grown_at sA.hg HE8.out (by omega); have a2 := cellsAt sA.hd 2; have a3 := cellsAt sA.hd 3; have a4 := cellsAt sA.hd 4; have p0 := cellsAt pA 0; have p1 := cellsAt pA 1; have p2 := cellsAt pA 2; simp only [List.getElem?_toArray, List.getElem?_cons_zero, List.getElem?_cons_succ] at a2 a3 a4 p0 p1 p2; rw [HQ.out] at a4; simp only [Int.ofNat_zero, Int.natCast_zero, Int.cast_ofNat_Int] at a3))
              all_goals (
                go_wp2
                exact ⟨⟨k + 1, M1, ll ++ [x], V', by go_num, by omega, (by show _ = _; rw [List.length_append, HLl.out]; rfl), HT', sB, HS⟩, by simp [intOf]; omega⟩)
            · have hs := H.out
              rw [show c - k = 0 by omega, addsP] at hs
              simp only [Pr.run] at hs
              cases hs
              have ik : ¬ ((k : Int) < (c : Int)) := by omega
              have c1 := grown_at sd.hg e9 (by omega)
              have gL := grown_trans gH sd.hg
              obtain ⟨va, vc, rfl⟩ := own_slice sd.ht
              have v0 := cellsAt sd.hd 0
              have v1 := cellsAt sd.hd 1
              have v2 := cellsAt sd.hd 2
              have v3 := cellsAt sd.hd 3
              have v4 := cellsAt sd.hd 4
              have v5 := cellsAt sd.hd 5
              simp only [List.getElem?_toArray, List.getElem?_cons_zero, List.getElem?_cons_succ] at v0 v1 v2 v3 v4 v5
              rw [hQ] at v4
              simp only [Int.ofNat_zero, Int.natCast_zero, Int.cast_ofNat_Int] at v3
              have u0 := cellsAt c1 0
              have u1 := cellsAt c1 1
              have u2 := cellsAt c1 2
              have u3 := cellsAt c1 3
              have u4 := cellsAt c1 4
              have u5 := cellsAt c1 5
              have fz0 := frozenAt c1 0
              have fz1 := frozenAt c1 1
              have fz2 := frozenAt c1 2
              have fz3 := frozenAt c1 3
              have fz4 := frozenAt c1 4
              have fz5 := frozenAt c1 5
              simp only [List.getElem?_toArray, List.getElem?_cons_zero, List.getElem?_cons_succ] at u0 u1 u2 u3 u4 u5
              have sd' := Lib.hid sd
              clear sd H
              go_wp2
              obtain ⟨zr, zf, zg, zs⟩ := end6 (w := w) (.int .i64 (kd : Int)) (.pointer (some ⟨p, 0, none⟩)) (.pointer (some ⟨p, 0, none⟩)) (.int .i64 12) (.int .i64 Q) (.slice va l.length vc) c1 (by omega) (by omega) sd'.out.hf gL
              have z0 := cellsAt zr 0
              have z1 := cellsAt zr 1
              have z2 := cellsAt zr 2
              have z3 := cellsAt zr 3
              have z4 := cellsAt zr 4
              have z5 := cellsAt zr 5
              simp only [List.getElem?_toArray, List.getElem?_cons_zero, List.getElem?_cons_succ] at z0 z1 z2 z3 z4 z5
              have hkp := at_lt e9
              have own := sd'.out.ht.kept zs (.inr (own_ne_old' sd'.out.ht hkp))
              have own' : TabsAt w.heap.size p l (.slice va l.length vc) _ := own_lower own (by have := gH.size; omega)
              exact bodyPost_ret (v := .agg #[.int .i64 (kd : Int), .pointer (some ⟨p, 0, none⟩), .pointer (some ⟨p, 0, none⟩), .int .i64 12, .int .i64 Q, .slice va l.length vc]) (by simp [results, Tryz.results70, go_sem, z0, z1, z2, z3, z4, z5]) rfl ⟨_, by rw [← hQ]; rfl, own', zf, zg⟩
    · rw [if_neg hk12] at hr
      cases hr
      have hk03 : kd = 0 ∨ kd = 3 := by omega
      clear ck hk12 HR HE
      refine Lib.hid ?_
      rcases hk03 with rfl | rfl
      · go_wp2
        obtain ⟨zr, zf, zg, zs⟩ := end6 (w := w) (.int .i64 0) (.pointer none) (.pointer none) (.int .i64 0) (.int .i64 0) (.slice none 0 0) d1 (by omega) (by omega) k5 gF
        have z0 := cellsAt zr 0
        have z1 := cellsAt zr 1
        have z2 := cellsAt zr 2
        have z3 := cellsAt zr 3
        have z4 := cellsAt zr 4
        have z5 := cellsAt zr 5
        simp only [List.getElem?_toArray, List.getElem?_cons_zero, List.getElem?_cons_succ] at z0 z1 z2 z3 z4 z5
        exact bodyPost_ret (v := .agg #[.int .i64 0, .pointer none, .pointer none, .int .i64 0, .int .i64 0, .slice none 0 0]) (by simp [results, Tryz.results70, go_sem, z0, z1, z2, z3, z4, z5]) rfl ⟨.slice none 0 0, rfl, World.ownsRow_nil _ _ _ _, zf, zg⟩
      · go_wp2
        obtain ⟨zr, zf, zg, zs⟩ := end6 (w := w) (.int .i64 3) (.pointer none) (.pointer none) (.int .i64 0) (.int .i64 0) (.slice none 0 0) d1 (by omega) (by omega) k5 gF
        have z0 := cellsAt zr 0
        have z1 := cellsAt zr 1
        have z2 := cellsAt zr 2
        have z3 := cellsAt zr 3
        have z4 := cellsAt zr 4
        have z5 := cellsAt zr 5
        simp only [List.getElem?_toArray, List.getElem?_cons_zero, List.getElem?_cons_succ] at z0 z1 z2 z3 z4 z5
        exact bodyPost_ret (v := .agg #[.int .i64 3, .pointer none, .pointer none, .int .i64 0, .int .i64 0, .slice none 0 0]) (by simp [results, Tryz.results70, go_sem, z0, z1, z2, z3, z4, z5]) rfl ⟨.slice none 0 0, rfl, World.ownsRow_nil _ _ _ _, zf, zg⟩
end Go.Proofs.YteibjmlimcpaoaaGreatDoor.W
