/-
  What report.reader's methods one, two, four, bytes, table and name answer, and what they leave of the reader; nothing else that lay in memory turns. (strings.Clone by the library's own contract.)
-/
import Derived.Test.YteibjmlimcpaoaaDoorDRd
import Derived.Shelf.Pu.Clone
set_option linter.unusedVariables false
set_option linter.unusedSimpArgs false
namespace Go.Proofs.YteibjmlimcpaoaaDoor
open Go.RowKit Go.Sort

def laysClone_ren : Go.Shelf.Ren := ⟨fun | 25 => 157 | n => n, fun | 9 => 9 | 4 => 4 | 3 => 3 | 5 => 5 | 0 => 0 | 37 => 62 | 47 => 170 | n => n, fun | n => n⟩
theorem laysClone : Go.Proofs.LaysPu.n25 Tryd.prog laysClone_ren := {
  mixed := by kernel_rfl
  f25 := Tryd.func157.trans (congrArg some (by kernel_rfl))
  t0 := Tryd.underlying0
  a0 := Tryd.isAgg0
  z0 := Tryd.sizeOf0
  v0 := Tryd.zeroValue0
  t3 := Tryd.underlying3
  a3 := Tryd.isAgg3
  z3 := Tryd.sizeOf3
  v3 := Tryd.zeroValue3
  t4 := Tryd.underlying4
  a4 := Tryd.isAgg4
  z4 := Tryd.sizeOf4
  v4 := Tryd.zeroValue4
  t5 := Tryd.underlying5
  a5 := Tryd.isAgg5
  z5 := Tryd.sizeOf5
  v5 := Tryd.zeroValue5
  t9 := Tryd.underlying9
  a9 := Tryd.isAgg9
  z9 := Tryd.sizeOf9
  v9 := Tryd.zeroValue9
  t37 := Tryd.underlying62
  a37 := Tryd.isAgg62
  z37 := Tryd.sizeOf62
  v37 := Tryd.zeroValue62
  t47 := Tryd.underlying170
  a47 := Tryd.isAgg170
  z47 := Tryd.sizeOf170
  v47 := Tryd.zeroValue170
  i0 := by kernel_rfl
  i3 := by kernel_rfl
  i4 := by kernel_rfl
  i5 := by kernel_rfl
  i9 := by kernel_rfl
  i37 := by kernel_rfl
  i47 := by kernel_rfl }
theorem clone82 (s : ByteArray) (w : World) (h : s.size ≤ 1000) : Calls Tryd.prog 138 #[.string s] w fun e w' => e = .returned (.string s) ∧ Below w.heap.size w w' := by
  have A := Lib.hid (fun w => AnyPu.stringslite_Clone laysClone s w (by omega))
  go_enter Tryd.func138, Tryd.ntmps138
  go_wp2_with (go_at_call 157; refine (A.out _).mono ?_; rintro e w1 ⟨rfl, hb1⟩)
  go_ret
  exact ⟨rfl, hb1⟩

theorem dtake_le (n : Nat) (s : St) : (dtake n s).2.1.length ≤ s.1.length := by
  unfold dtake
  split
  · exact Nat.le_refl _
  · simp only [List.length_drop]; omega
theorem dtake_len (n : Nat) (s : St) : (dtake n s).1.length ≤ n := by
  unfold dtake
  split
  · simp
  · simp only [List.length_take]; omega
theorem dnum_le (n : Nat) (s : St) : (dnum n s).2.1.length ≤ s.1.length := dtake_le n s
theorem dnum1_lt (s : St) : (dnum 1 s).1 < 256 := by
  have h := beGo_lt (dtake 1 s).1 0
  have h2 := dtake_len 1 s
  have h3 : 256 ^ (dtake 1 s).1.length ≤ 256 ^ 1 := Nat.pow_le_pow_right (by decide) h2
  show beGo 0 _ < _
  omega

set_option maxRecDepth 100000 in
theorem rone (p : Nat) (s : St) (w : World) (hl : s.1.length ≤ 9223372036854775807) (h : RdAt p s w) :
    Calls Tryd.prog 87 #[.pointer (some ⟨p, 0, none⟩)] w fun e w' => e = .returned (.int .i64 ((dnum 1 s).1 : Nat)) ∧ RdAt p (dnum 1 s).2 w' ∧ w.grownBy w' (some p) := by
  have A := Lib.hid (num76 p 1 s w (by omega) hl h)
  generalize dnum 1 s = x at *
  go_enter Tryd.func87, Tryd.ntmps87
  go_wp2_with (go_at_call 117; refine A.out.mono ?_; rintro e w1 ⟨rfl, h1, g1⟩)
  go_ret
  exact ⟨rfl, h1, g1⟩
set_option maxRecDepth 100000 in
theorem rtwo (p : Nat) (s : St) (w : World) (hl : s.1.length ≤ 9223372036854775807) (h : RdAt p s w) :
    Calls Tryd.prog 90 #[.pointer (some ⟨p, 0, none⟩)] w fun e w' => e = .returned (.int .i64 ((dnum 2 s).1 : Nat)) ∧ RdAt p (dnum 2 s).2 w' ∧ w.grownBy w' (some p) := by
  have A := Lib.hid (num76 p 2 s w (by omega) hl h)
  generalize dnum 2 s = x at *
  go_enter Tryd.func90, Tryd.ntmps90
  go_wp2_with (go_at_call 117; refine A.out.mono ?_; rintro e w1 ⟨rfl, h1, g1⟩)
  go_ret
  exact ⟨rfl, h1, g1⟩
set_option maxRecDepth 100000 in
theorem rfour (p : Nat) (s : St) (w : World) (hl : s.1.length ≤ 9223372036854775807) (h : RdAt p s w) :
    Calls Tryd.prog 93 #[.pointer (some ⟨p, 0, none⟩)] w fun e w' => e = .returned (.int .i64 ((dnum 4 s).1 : Nat)) ∧ RdAt p (dnum 4 s).2 w' ∧ w.grownBy w' (some p) := by
  have A := Lib.hid (num76 p 4 s w (by omega) hl h)
  generalize dnum 4 s = x at *
  go_enter Tryd.func93, Tryd.ntmps93
  go_wp2_with (go_at_call 117; refine A.out.mono ?_; rintro e w1 ⟨rfl, h1, g1⟩)
  go_ret
  exact ⟨rfl, h1, g1⟩
set_option maxRecDepth 100000 in
theorem rbytes (p n : Nat) (s : St) (w : World) (hn : n ≤ 256) (hl : s.1.length ≤ 9223372036854775807) (h : RdAt p s w) :
    Calls Tryd.prog 118 #[.pointer (some ⟨p, 0, none⟩), .int .i64 n] w fun e w' => e = .returned (.string ⟨(dtake n s).1.toArray⟩) ∧ RdAt p (dtake n s).2 w' ∧ w.grownBy w' (some p) := by
  have A := Lib.hid (take81 p n s w (by omega) hl h)
  have hz := ba_size (dtake n s).1
  have hz2 := dtake_len n s
  have C := Lib.hid (fun w => clone82 ⟨(dtake n s).1.toArray⟩ w (by omega))
  generalize dtake n s = x at *
  go_enter Tryd.func118, Tryd.ntmps118
  go_wp2_with (go_at_call 137; refine A.out.mono ?_; rintro e w1 ⟨rfl, h1, g1⟩; refine Hid.out ?_)
  refine Lib.hid ?_
  go_wp2_with (go_at_call 138; refine (C.out _).mono ?_; rintro e w2 ⟨rfl, hb2⟩)
  go_ret
  exact ⟨rfl, belowAt' hb2 h1, grown_trans g1 (grown_below _ hb2)⟩

theorem rd_alloc {p : Nat} {s : St} {w : World} (h : RdAt p s w) (o : Obj) : RdAt p s (w.alloc o) := allocOldN h
theorem grownAt {w w' : World} {k p : Nat} {o : Obj} (h : w.heap[k]? = some o) (g : w.grownBy w' (some p)) (hne : k ≠ p) : w'.heap[k]? = some o := by
  rw [g.block k (Array.getElem?_eq_some_iff.1 h).1 (fun e => hne (Option.some.inj e))]
  exact h
theorem grown_new {w w1 : World} {r : Option Nat} {k : Nat} (h : w.grownBy w1 r) (hk : w.heap.size ≤ k) (i : Nat) (v : Value) : w.grownBy (w1.setCell ⟨k, i, none⟩ v) r :=
  ⟨h.os, h.tape, h.output, by simpa [World.setCell] using h.size, fun j hj hn => by
    rw [Below.heap_setCell _ _ _ _ (show j ≠ k by omega)]
    exact h.block j hj hn⟩
theorem grown_setAll {w : World} {r : Option Nat} {k : Nat} (hk : w.heap.size ≤ k) : ∀ (vs : List Value) (i : Nat) (w1 : World), w.grownBy w1 r → w.grownBy (setAll w1 k i vs) r
  | [], i, w1, h => h
  | v :: vs, i, w1, h => grown_setAll hk vs (i + 1) _ (grown_new h hk i v)
theorem rd_setAll {p k : Nat} {s : St} {w : World} (h : RdAt p s w) (hne : p ≠ k) (i : Nat) (vs : List Value) : RdAt p s (setAll w k i vs) := (setAll_other k vs i w p hne).trans h
theorem rd_lt {p : Nat} {s : St} {w : World} (h : RdAt p s w) : p < w.heap.size := (Array.getElem?_eq_some_iff.1 h).1

set_option maxRecDepth 100000 in
set_option maxHeartbeats 1000000 in
theorem rtable (p : Nat) (s : St) (w : World) (hl : s.1.length ≤ 9223372036854775807) (h : RdAt p s w) :
    Calls Tryd.prog 89 #[.pointer (some ⟨p, 0, none⟩)] w fun e w' => e = .returned (.agg #[.string (dtab s).1.tag, .int .i64 (dtab s).1.st, .int .i64 (dtab s).1.sz]) ∧ RdAt p (dtab s).2 w' ∧ w.grownBy w' (some p) := by
  unfold dtab
  simp only
  have hlt := rd_lt h
  have A := Lib.hid (rbytes p 4 s _ (by omega) hl (rd_alloc h (.cells #[.string ⟨#[]⟩, .int .i64 0, .int .i64 0] 77)))
  have l1 := dtake_le 4 s
  have B := Lib.hid (fun w h => rone p (dtake 4 s).2 w (by omega) h)
  have l2 := dnum_le 1 (dtake 4 s).2
  have C := Lib.hid (fun w h => rtwo p (dnum 1 (dtake 4 s).2).2 w (by omega) h)
  have r0 := allocAt w (.cells #[.string ⟨#[]⟩, .int .i64 0, .int .i64 0] 77)
  have g0 := World.grownBy_alloc w (.cells #[.string ⟨#[]⟩, .int .i64 0, .int .i64 0] 77) (some p)
  generalize dtake 4 s = x at *
  generalize dnum 1 x.2 = y at *
  generalize dnum 2 y.2 = z at *
  go_enter Tryd.func89, Tryd.ntmps89
  go_wp2_with (go_at_call 118; refine A.out.mono ?_; rintro e w1 ⟨rfl, h1, g1⟩; refine Hid.out ?_)
  refine Lib.hid ?_
  go_wp2_with (go_at_call 87; refine (B.out _ h1).mono ?_; rintro e w2 ⟨rfl, h2, g2⟩; refine Hid.out ?_)
  refine Lib.hid ?_
  go_wp2_with (go_at_call 90; refine (C.out _ h2).mono ?_; rintro e w3 ⟨rfl, h3, g3⟩; refine Hid.out ?_)
  have r3 := grownAt (grownAt (grownAt r0 g1 (by omega)) g2 (by omega)) g3 (by omega)
  have gw := grown_trans g0 (grown_trans g1 (grown_trans g2 g3))
  clear r0 g0 g1 g2 g3 h1 h2 A B C
  have x0 := cellsAt r3 0
  have x1 := cellsAt r3 1
  have x2 := cellsAt r3 2
  have f0 := frozenAt r3 0
  have f1 := frozenAt r3 1
  have f2 := frozenAt r3 2
  simp only [List.getElem?_toArray, List.getElem?_cons_zero, List.getElem?_cons_succ] at x0 x1 x2
  refine Lib.hid ?_
  go_wp2
  exact bodyPost_ret (v := .agg #[.string ⟨x.1.toArray⟩, .int .i64 (y.1 : Nat), .int .i64 (z.1 : Nat)]) (by simp [results, Tryd.results89, go_sem, x0, x1, x2]) rfl
    ⟨rfl, rd_setAll h3 (by omega) 0 [.string ⟨x.1.toArray⟩, .int .i64 (y.1 : Nat), .int .i64 (z.1 : Nat)], grown_setAll (Nat.le_refl _) [.string ⟨x.1.toArray⟩, .int .i64 (y.1 : Nat), .int .i64 (z.1 : Nat)] 0 w3 gw⟩

set_option maxRecDepth 100000 in
set_option maxHeartbeats 2000000 in
theorem rname (p : Nat) (s : St) (w : World) (hl : s.1.length ≤ 9223372036854775807) (h : RdAt p s w) :
    Calls Tryd.prog 92 #[.pointer (some ⟨p, 0, none⟩)] w fun e w' => e = .returned (.agg #[.int .i64 (dnm s).1.pl, .int .i64 (dnm s).1.en, .int .i64 (dnm s).1.la, .int .i64 (dnm s).1.id, .int .i64 (dnm s).1.st, .int .i64 (dnm s).1.ms, .string (dnm s).1.tx]) ∧ RdAt p (dnm s).2 w' ∧ w.grownBy w' (some p) := by
  unfold dnm
  simp only
  have hlt := rd_lt h
  have h0 := rd_alloc h (.cells #[.int .i64 0, .int .i64 0, .int .i64 0, .int .i64 0, .int .i64 0, .int .i64 0, .string ⟨#[]⟩] 79)
  have r0 := allocAt w (.cells #[.int .i64 0, .int .i64 0, .int .i64 0, .int .i64 0, .int .i64 0, .int .i64 0, .string ⟨#[]⟩] 79)
  have g0 := World.grownBy_alloc w (.cells #[.int .i64 0, .int .i64 0, .int .i64 0, .int .i64 0, .int .i64 0, .int .i64 0, .string ⟨#[]⟩] 79) (some p)
  have A := Lib.hid (fun w h => rtwo p s w hl h)
  have l1 := dnum_le 2 s
  generalize dnum 2 s = a at *
  have B := Lib.hid (fun w h => rtwo p a.2 w (by omega) h)
  have l2 := dnum_le 2 a.2
  generalize dnum 2 a.2 = b at *
  have C := Lib.hid (fun w h => rtwo p b.2 w (by omega) h)
  have l3 := dnum_le 2 b.2
  generalize dnum 2 b.2 = c at *
  have D := Lib.hid (fun w h => rtwo p c.2 w (by omega) h)
  have l4 := dnum_le 2 c.2
  generalize dnum 2 c.2 = d at *
  have E := Lib.hid (fun w h => rone p d.2 w (by omega) h)
  have l5 := dnum_le 1 d.2
  generalize dnum 1 d.2 = e at *
  have F := Lib.hid (fun w h => rone p e.2 w (by omega) h)
  have l6 := dnum_le 1 e.2
  generalize dnum 1 e.2 = f at *
  have G := Lib.hid (fun w h => rone p f.2 w (by omega) h)
  have l7 := dnum_le 1 f.2
  have hg := dnum1_lt f.2
  generalize dnum 1 f.2 = g at *
  have X := Lib.hid (fun w h => rbytes p g.1 g.2 w (by omega) (by omega) h)
  generalize dtake g.1 g.2 = x at *
  go_enter Tryd.func92, Tryd.ntmps92
  go_wp2_with (go_at_call 90; refine (A.out _ h0).mono ?_; rintro e' w1 ⟨rfl, h1, g1⟩; refine Hid.out ?_)
  refine Lib.hid ?_
  go_wp2_with (go_at_call 90; refine (B.out _ h1).mono ?_; rintro e' w2 ⟨rfl, h2, g2⟩; refine Hid.out ?_)
  refine Lib.hid ?_
  go_wp2_with (go_at_call 90; refine (C.out _ h2).mono ?_; rintro e' w3 ⟨rfl, h3, g3⟩; refine Hid.out ?_)
  refine Lib.hid ?_
  go_wp2_with (go_at_call 90; refine (D.out _ h3).mono ?_; rintro e' w4 ⟨rfl, h4, g4⟩; refine Hid.out ?_)
  refine Lib.hid ?_
  go_wp2_with (go_at_call 87; refine (E.out _ h4).mono ?_; rintro e' w5 ⟨rfl, h5, g5⟩; refine Hid.out ?_)
  refine Lib.hid ?_
  go_wp2_with (go_at_call 87; refine (F.out _ h5).mono ?_; rintro e' w6 ⟨rfl, h6, g6⟩; refine Hid.out ?_)
  refine Lib.hid ?_
  go_wp2_with (go_at_call 87; refine (G.out _ h6).mono ?_; rintro e' w7 ⟨rfl, h7, g7⟩; refine Hid.out ?_)
  refine Lib.hid ?_
  go_wp2_with (go_at_call 118; refine (X.out _ h7).mono ?_; rintro e' w8 ⟨rfl, h8, g8⟩; refine Hid.out ?_)
  have gg := grown_trans g1 (grown_trans g2 (grown_trans g3 (grown_trans g4 (grown_trans g5 (grown_trans g6 (grown_trans g7 g8))))))
  have r8 := grownAt r0 gg (by omega)
  have gw := grown_trans g0 gg
  clear r0 g0 g1 g2 g3 g4 g5 g6 g7 g8 h0 h1 h2 h3 h4 h5 h6 h7 A B C D E F G X
  have x0 := cellsAt r8 0
  have x1 := cellsAt r8 1
  have x2 := cellsAt r8 2
  have x3 := cellsAt r8 3
  have x4 := cellsAt r8 4
  have x5 := cellsAt r8 5
  have x6 := cellsAt r8 6
  have f0 := frozenAt r8 0
  have f1 := frozenAt r8 1
  have f2 := frozenAt r8 2
  have f3 := frozenAt r8 3
  have f4 := frozenAt r8 4
  have f5 := frozenAt r8 5
  have f6 := frozenAt r8 6
  simp only [List.getElem?_toArray, List.getElem?_cons_zero, List.getElem?_cons_succ] at x0 x1 x2 x3 x4 x5 x6
  refine Lib.hid ?_
  go_wp2
  exact bodyPost_ret (v := .agg #[.int .i64 (a.1 : Nat), .int .i64 (b.1 : Nat), .int .i64 (c.1 : Nat), .int .i64 (d.1 : Nat), .int .i64 (e.1 : Nat), .int .i64 (f.1 : Nat), .string ⟨x.1.toArray⟩]) (by simp [results, Tryd.results92, go_sem, x0, x1, x2, x3, x4, x5, x6]) rfl
    ⟨rfl, rd_setAll h8 (by omega) 0 [.int .i64 (a.1 : Nat), .int .i64 (b.1 : Nat), .int .i64 (c.1 : Nat), .int .i64 (d.1 : Nat), .int .i64 (e.1 : Nat), .int .i64 (f.1 : Nat), .string ⟨x.1.toArray⟩], grown_setAll (Nat.le_refl _) [.int .i64 (a.1 : Nat), .int .i64 (b.1 : Nat), .int .i64 (c.1 : Nat), .int .i64 (d.1 : Nat), .int .i64 (e.1 : Nat), .int .i64 (f.1 : Nat), .string ⟨x.1.toArray⟩] 0 w8 gw⟩
end Go.Proofs.YteibjmlimcpaoaaDoor
