/-
  What package look's mark leaves: a row of bools, turned from one place to another.
  What package look's hide leaves.
  What package look's Public answers: as the plain program says; nothing that was there turns.
  What the program's Public answers.
-/
import Derived.Test.YteibjmlimcpaoaaGreatDoorNamB
import Derived.Test.YteibjmlimcpaoaaGreatDoorWf
import Derived.Laws.MakeOwn
set_option linter.unusedVariables false
set_option linter.unusedSimpArgs false
namespace Go.Proofs.YteibjmlimcpaoaaGreatDoor.W
open Go.RowKit Go.Sort

def BoolsAt (g : Nat) (L : List Bool) (w : World) : Prop := w.heap[g]? = some (.cells (L.map Value.bool).toArray 4 (0, 0))
theorem mark_len (v : Wn) (a : Bool) (L : List Bool) : (markL v a L).length = L.length := by simp [markL]
theorem mark_nil (b : Nat) (a : Bool) (L : List Bool) : markL ⟨b, 0⟩ a L = L := by
  apply List.ext_getElem?
  intro i
  simp only [markL, List.getElem?_mapIdx]
  cases L[i]? with
  | none => rfl
  | some x =>
    simp only [Option.map_some]
    rw [if_neg (by omega)]
theorem mark_step (b j : Nat) (a : Bool) (L : List Bool) : (markL ⟨b, j⟩ a L).set (b + j) a = markL ⟨b, j + 1⟩ a L := by
  apply List.ext_getElem?
  intro i
  rw [List.getElem?_set]
  simp only [markL, List.length_mapIdx, List.getElem?_mapIdx]
  by_cases h : b + j = i
  · subst h
    rw [if_pos rfl]
    by_cases hl : b + j < L.length
    · rw [if_pos hl, List.getElem?_eq_getElem hl]
      simp only [Option.map_some]
      rw [if_pos (by omega)]
    · rw [if_neg hl, List.getElem?_eq_none (by omega)]
      rfl
  · rw [if_neg h]
    cases L[i]? with
    | none => rfl
    | some x =>
      simp only [Option.map_some]
      by_cases hc : b ≤ i ∧ i < b + j
      · rw [if_pos hc, if_pos (by omega)]
      · rw [if_neg hc, if_neg (by omega)]
theorem bools_set {g k : Nat} {L : List Bool} {w : World} (h : BoolsAt g L w) (a : Bool) : BoolsAt g (L.set k a) (w.setCell ⟨g, k, none⟩ (.bool a)) := by
  unfold BoolsAt at *
  rw [setCell_row h (.bool a)]
  simp [List.map_set]

set_option maxRecDepth 100000 in
set_option maxHeartbeats 2000000 in
theorem markW (g cap : Nat) (q : Option Addr) (t : Wn) (a : Bool) (L : List Bool) (w : World) (hl : L.length ≤ 2000) (ht : t.b + t.s ≤ L.length) (h : BoolsAt g L w) :
    Calls Tryz.prog 68 #[.slice (some ⟨g, 0, none⟩) L.length cap, wq q t, .bool a] w fun e w' => e = .returned (.tuple #[]) ∧ BoolsAt g (markL t a L) w' ∧ w.grownBy w' (some g) := by
  obtain ⟨n, hn⟩ : ∃ n, L.length = n := ⟨_, rfl⟩
  rw [hn] at hl ht ⊢
  obtain ⟨W, hW⟩ : ∃ W, w.alloc (.cells #[.pointer q, .int .i64 (t.b : Int), .int .i64 (t.s : Int)] 126) = W := ⟨_, rfl⟩
  have hbW : Below w.heap.size w W := by rw [← hW]; exact below_alloc _ _
  have n0 : W.heap[w.heap.size]? = some (.cells #[.pointer q, .int .i64 (t.b : Int), .int .i64 (t.s : Int)] 126 (0, 0)) := by rw [← hW]; exact new_at _ _
  have A := Lib.hid (placesW q t W (by omega) (by omega))
  have hB := at_below h hbW
  have gW : w.grownBy W (some g) := grown_below _ hbW
  have y0 := cellsAt n0 0
  have y1 := cellsAt n0 1
  have y2 := cellsAt n0 2
  simp only [List.getElem?_toArray, List.getElem?_cons_zero, List.getElem?_cons_succ] at y0 y1 y2
  unfold wq at A ⊢
  obtain ⟨E, hE⟩ : ∃ E : Int, ((t.b + t.s : Nat) : Int) = E := ⟨_, rfl⟩
  rw [hE] at A
  have HB := Lib.hid hB
  have HN := Lib.hid hn
  clear h hB n0 hbW hn
  go_enter Tryz.func68, Tryz.ntmps68
  go_wp2_with (go_at_call 89; refine A.out.mono ?_; rintro e w1 ⟨rfl, hb1⟩; refine Hid.out ?_)
  have B1 : BoolsAt g L w1 := at_below HB.out hb1
  have g1 := grown_trans gW (grown_below (some g) hb1)
  clear y0 y1 y2 A HB hb1 hW
  refine Lib.hid ?_
  go_wp2_with fail
  go_loopw [8] (fun is wr => ∃ (j : Nat), is = .int .i64 ((t.b + j : Nat) : Int) ∧ j ≤ t.s ∧ Hid (BoolsAt g (markL ⟨t.b, j⟩ a L) wr) ∧ w.grownBy wr (some g)) (fun is _ => t.b + t.s - (intOf is).toNat)
  case atStart => exact ⟨0, rfl, Nat.zero_le _, by rw [mark_nil]; exact Lib.hid B1, g1⟩
  case round =>
    obtain ⟨j, rfl, hj, HA, hg⟩ := hrel
    obtain ⟨k, hk⟩ : ∃ k, t.b + j = k := ⟨_, rfl⟩
    rw [hk]
    by_cases c : j < t.s
    · have ik : (k : Int) < E := by omega
      have ik0 : (0 : Int) ≤ (k : Int) := by omega
      have ikn : (k : Int) < (n : Int) := by omega
      have hh := HA.out
      have hlen : k < (markL ⟨t.b, j⟩ a L).length := by rw [mark_len, HN.out]; omega
      have c0 : wr.cell? ⟨g, k, none⟩ = some (.bool ((markL ⟨t.b, j⟩ a L)[k])) := by
        have := cellsAt hh k
        rw [this]
        simp [List.getElem?_eq_getElem hlen]
      have f0 := frozenAt hh k
      have HS := Lib.hid (bools_set (k := k) hh a)
      obtain ⟨xx, hxx⟩ : ∃ xx, (markL ⟨t.b, j⟩ a L)[k] = xx := ⟨_, rfl⟩
      rw [hxx] at c0
      clear hxx hh hlen HA
      go_wp2
      refine ⟨⟨j + 1, by first | rfl | go_num | (congr 1; omega), by omega, ?_, grown_set hg _ _⟩, by simp [intOf]; omega⟩
      have := HS.out
      rw [← hk, mark_step] at this
      rw [← hk]
      exact Lib.hid this
    · have ik : ¬ ((k : Int) < E) := by omega
      have hjs : j = t.s := by omega
      subst hjs
      clear c
      go_wp2
      go_end0
      exact ⟨rfl, HA.out, hg⟩
end Go.Proofs.YteibjmlimcpaoaaGreatDoor.W

set_option linter.unusedVariables false
set_option linter.unusedSimpArgs false
namespace Go.Proofs.YteibjmlimcpaoaaGreatDoor.W
open Go.RowKit Go.Sort

theorem marks_len (st : Nat) (a : Bool) : ∀ (l : List Nw) (L : List Bool), (marksN st a l L).length = L.length
  | [], L => rfl
  | x :: l, L => by
    show (marksN st a l (if x.st = st then markL x.v a L else L)).length = _
    rw [marks_len st a l]
    split
    · exact mark_len _ _ _
    · rfl
theorem marks_take (st : Nat) (a : Bool) (l : List Nw) (k : Nat) (x : Nw) (h : l[k]? = some x) (L : List Bool) : marksN st a (l.take (k + 1)) L = if x.st = st then markL x.v a (marksN st a (l.take k) L) else marksN st a (l.take k) L := by
  rw [List.take_add_one, h]
  simp [marksN, List.foldl_append]
theorem grown_alloc' {w : World} {o : Obj} {w1 : World} {r : Option Nat} (h : (w.alloc o).grownBy w1 r) : w.grownBy w1 r := grown_alloc h

set_option maxRecDepth 100000 in
set_option maxHeartbeats 4000000 in
theorem hideW (p B g cap n : Nat) (ns : Ns) (VL : Value) (L : List Bool) (w : World) (hn : L.length = n) (hl : n ≤ 2000) (hns : SB n ns) (hB : B ≤ w.heap.size) (h : BoolsAt g L w) (hN : NamsAt B p ns.list VL w) :
    Calls Tryz.prog 71 #[.slice (some ⟨g, 0, none⟩) n cap, nsv p ns VL] w fun e w' => e = .returned (.tuple #[]) ∧ BoolsAt g (marksN 0 true ns.list (markL ns.ahead true (marksN 4 false ns.list L))) w' ∧ w.grownBy w' (some g) := by
  obtain ⟨ao, cp, rfl⟩ := own_slice hN
  have hlt := at_lt h
  have hgn := own_kind_ne' hN h (by decide)
  have hlen20 := hns.len
  unfold nsv
  generalize (if ns.here = true then some (⟨p, 0, none⟩ : Addr) else none) = nq
  obtain ⟨W, hW⟩ : ∃ W, w.alloc (.cells #[.int .i64 (ns.st : Int), .pointer nq, .int .i64 (ns.ahead.b : Int), .int .i64 (ns.ahead.s : Int), .slice ao ns.list.length cp] 137) = W := ⟨_, rfl⟩
  have bW : Below w.heap.size w W := by rw [← hW]; exact below_alloc _ _
  have x0 : W.heap[w.heap.size]? = some (.cells #[.int .i64 (ns.st : Int), .pointer nq, .int .i64 (ns.ahead.b : Int), .int .i64 (ns.ahead.s : Int), .slice ao ns.list.length cp] 137 (0, 0)) := by rw [← hW]; exact new_at _ _
  have HX := Lib.hid x0
  have HL := Lib.hid (own_any hN bW)
  have HN := Lib.hid hns
  have HLn := Lib.hid hn
  have HB0 := Lib.hid (at_below h bW)
  have gW : w.grownBy W (some g) := grown_below _ bW
  have y4 := cellsAt x0 4
  simp only [List.getElem?_toArray, List.getElem?_cons_zero, List.getElem?_cons_succ] at y4
  clear h hN hns hn x0
  go_enter Tryz.func71, Tryz.ntmps71
  go_wp2
  clear y4 hW
  go_loopw [11] (fun is wr => ∃ (k : Nat), is = .int .i64 (k : Int) ∧ k ≤ ns.list.length ∧ Hid (BoolsAt g (marksN 4 false (ns.list.take k) L) wr) ∧ W.grownBy wr (some g)) (fun is _ => ns.list.length - (intOf is).toNat)
  case atStart => exact ⟨0, rfl, Nat.zero_le _, (by simp only [List.take_zero]; exact HB0), World.grownBy.refl _ _⟩
  case round =>
    obtain ⟨k, rfl, hk, HA, hg⟩ := hrel
    by_cases c : k < ns.list.length
    · obtain ⟨x, hxk⟩ : ∃ x, ns.list[k]? = some x := ⟨_, List.getElem?_eq_getElem c⟩
      have ik : (k : Int) < (ns.list.length : Int) := by omega
      have ik0 : (0 : Int) ≤ (k : Int) := by omega
      have own1 : NamsAt B p ns.list (.slice ao ns.list.length cp) wr := HL.out.kept hg (.inr hgn)
      obtain ⟨gg, cap', cs, hve, hbg, hgg⟩ := own_form own1 (by omega)
      cases hve
      obtain ⟨c0, c1, c2, c3, c4, c5, c6, c7, c8, c9⟩ := nam_cells own1 k x hxk
      have hnb := HN.out.list x (List.mem_of_getElem? hxk)
      obtain ⟨W2, hW2⟩ : ∃ W2, wr.alloc (.cells #[.int .i64 (x.pl : Int), .int .i64 (x.en : Int), .int .i64 (x.la : Int), .int .i64 (x.id : Int), .int .i64 (x.st : Int), .int .i64 0, .string ⟨#[]⟩, .pointer (some ⟨p, 0, none⟩), .int .i64 (x.v.b : Int), .int .i64 (x.v.s : Int)] 170) = W2 := ⟨_, rfl⟩
      have b2 : Below wr.heap.size wr W2 := by rw [← hW2]; exact below_alloc _ _
      have n2 : W2.heap[wr.heap.size]? = some (.cells #[.int .i64 (x.pl : Int), .int .i64 (x.en : Int), .int .i64 (x.la : Int), .int .i64 (x.id : Int), .int .i64 (x.st : Int), .int .i64 0, .string ⟨#[]⟩, .pointer (some ⟨p, 0, none⟩), .int .i64 (x.v.b : Int), .int .i64 (x.v.s : Int)] 170 (0, 0)) := by rw [← hW2]; exact new_at _ _
      have hst := marks_take 4 false ns.list k x hxk (L)
      have hB2 := at_below HA.out b2
      have hlen : (marksN 4 false (ns.list.take k) (L)).length = n := by rw [marks_len]; exact HLn.out
      have gr2 := grown_trans hg (grown_below (some g) b2)
      have A := Lib.hid (markW g cap (some ⟨p, 0, none⟩) x.v false (marksN 4 false (ns.list.take k) (L)) W2 (by omega) (by rw [hlen]; exact hnb.v) hB2)
      rw [hlen] at A
      unfold wq at A
      have HST := Lib.hid hst
      have HB2 := Lib.hid hB2
      have y0 := cellsAt n2 0
      have y1 := cellsAt n2 1
      have y2 := cellsAt n2 2
      have y3 := cellsAt n2 3
      have y4 := cellsAt n2 4
      have y5 := cellsAt n2 5
      have y6 := cellsAt n2 6
      have y7 := cellsAt n2 7
      have y8 := cellsAt n2 8
      have y9 := cellsAt n2 9
      simp only [List.getElem?_toArray, List.getElem?_cons_zero, List.getElem?_cons_succ] at y0 y1 y2 y3 y4 y5 y6 y7 y8 y9
      clear own1 hgg hxk hst hB2 hlen HA hnb
      by_cases cs : x.st = 4
      · have ds : ((x.st : Int) = 4) := by omega
        subst hW2
        simp only [ds] at A gr2 y0 y1 y2 y3 y4 y5 y6 y7 y8 y9 c4
        go_wp2_with (go_at_call 68; refine A.out.mono ?_; rintro e w5 ⟨rfl, kB, kg⟩)
        exact ⟨⟨k + 1, by go_num, by omega, (by rw [HST.out, if_pos cs]; exact Lib.hid kB), grown_trans gr2 kg⟩, by simp [intOf]; omega⟩
      · have ds : ¬ ((x.st : Int) = 4) := by omega
        subst hW2
        go_wp2
        exact ⟨⟨k + 1, by go_num, by omega, (by rw [HST.out, if_neg cs]; exact HB2), gr2⟩, by simp [intOf]; omega⟩
    · have hke : k = ns.list.length := by omega
      subst hke
      have ik : ¬ ((ns.list.length : Int) < (ns.list.length : Int)) := by omega
      clear c
      have hm1 := HA.out
      rw [List.take_length] at hm1
      have hlen1 : (marksN 4 false ns.list L).length = n := by rw [marks_len]; exact HLn.out
      have x0 := grown_at hg HX.out (by omega)
      have A := Lib.hid (markW g cap nq ns.ahead true (marksN 4 false ns.list L) wr (by omega) (by rw [hlen1]; exact HN.out.ahead) hm1)
      rw [hlen1] at A
      unfold wq at A
      have hlen2 : (markL ns.ahead true (marksN 4 false ns.list L)).length = n := by rw [mark_len]; exact hlen1
      have HL2 := Lib.hid hlen2
      clear hm1 hlen1 hlen2 HA
      have y0 := cellsAt x0 0
      have y1 := cellsAt x0 1
      have y2 := cellsAt x0 2
      have y3 := cellsAt x0 3
      have y4 := cellsAt x0 4
      simp only [List.getElem?_toArray, List.getElem?_cons_zero, List.getElem?_cons_succ] at  y0 y1 y2 y3 y4
      go_wp2_with (go_at_call 68; refine A.out.mono ?_; rintro e w6 ⟨rfl, k6, g6⟩; refine Hid.out ?_)
      have g7 := grown_trans hg g6
      have x7 := grown_at g7 HX.out (by omega)
      clear y0 y1 y2 y3 y4 A x0
      have y4 := cellsAt x7 4
      simp only [List.getElem?_toArray, List.getElem?_cons_zero, List.getElem?_cons_succ] at y4
      have K6 := Lib.hid k6
      clear k6 x7 hg g6
      refine Lib.hid ?_
      go_wp2_with fail
      clear y4
      go_loopw [31] (fun is wr => ∃ (k : Nat), is = .int .i64 (k : Int) ∧ k ≤ ns.list.length ∧ Hid (BoolsAt g (marksN 0 true (ns.list.take k) (markL ns.ahead true (marksN 4 false ns.list L))) wr) ∧ W.grownBy wr (some g)) (fun is _ => ns.list.length - (intOf is).toNat)
      case atStart => exact ⟨0, rfl, Nat.zero_le _, (by simp only [List.take_zero]; exact K6), g7⟩
      case round =>
        obtain ⟨k, rfl, hk, HA, hg⟩ := hrel
        by_cases c : k < ns.list.length
        · obtain ⟨x, hxk⟩ : ∃ x, ns.list[k]? = some x := ⟨_, List.getElem?_eq_getElem c⟩
          have ik : (k : Int) < (ns.list.length : Int) := by omega
          have ik0 : (0 : Int) ≤ (k : Int) := by omega
          have own1 : NamsAt B p ns.list (.slice ao ns.list.length cp) wr := HL.out.kept hg (.inr hgn)
          obtain ⟨gg, cap', cs, hve, hbg, hgg⟩ := own_form own1 (by omega)
          cases hve
          obtain ⟨c0, c1, c2, c3, c4, c5, c6, c7, c8, c9⟩ := nam_cells own1 k x hxk
          have hnb := HN.out.list x (List.mem_of_getElem? hxk)
          obtain ⟨W2, hW2⟩ : ∃ W2, wr.alloc (.cells #[.int .i64 (x.pl : Int), .int .i64 (x.en : Int), .int .i64 (x.la : Int), .int .i64 (x.id : Int), .int .i64 (x.st : Int), .int .i64 0, .string ⟨#[]⟩, .pointer (some ⟨p, 0, none⟩), .int .i64 (x.v.b : Int), .int .i64 (x.v.s : Int)] 170) = W2 := ⟨_, rfl⟩
          have b2 : Below wr.heap.size wr W2 := by rw [← hW2]; exact below_alloc _ _
          have n2 : W2.heap[wr.heap.size]? = some (.cells #[.int .i64 (x.pl : Int), .int .i64 (x.en : Int), .int .i64 (x.la : Int), .int .i64 (x.id : Int), .int .i64 (x.st : Int), .int .i64 0, .string ⟨#[]⟩, .pointer (some ⟨p, 0, none⟩), .int .i64 (x.v.b : Int), .int .i64 (x.v.s : Int)] 170 (0, 0)) := by rw [← hW2]; exact new_at _ _
          have hst := marks_take 0 true ns.list k x hxk ((markL ns.ahead true (marksN 4 false ns.list L)))
          have hB2 := at_below HA.out b2
          have hlen : (marksN 0 true (ns.list.take k) ((markL ns.ahead true (marksN 4 false ns.list L)))).length = n := by rw [marks_len]; exact HL2.out
          have gr2 := grown_trans hg (grown_below (some g) b2)
          have A := Lib.hid (markW g cap (some ⟨p, 0, none⟩) x.v true (marksN 0 true (ns.list.take k) ((markL ns.ahead true (marksN 4 false ns.list L)))) W2 (by omega) (by rw [hlen]; exact hnb.v) hB2)
          rw [hlen] at A
          unfold wq at A
          have HST := Lib.hid hst
          have HB2 := Lib.hid hB2
          have y0 := cellsAt n2 0
          have y1 := cellsAt n2 1
          have y2 := cellsAt n2 2
          have y3 := cellsAt n2 3
          have y4 := cellsAt n2 4
          have y5 := cellsAt n2 5
          have y6 := cellsAt n2 6
          have y7 := cellsAt n2 7
          have y8 := cellsAt n2 8
          have y9 := cellsAt n2 9
          simp only [List.getElem?_toArray, List.getElem?_cons_zero, List.getElem?_cons_succ] at y0 y1 y2 y3 y4 y5 y6 y7 y8 y9
          clear own1 hgg hxk hst hB2 hlen HA hnb
          by_cases cs : x.st = 0
          · have ds : ((x.st : Int) = 0) := by omega
            subst hW2
            simp only [ds] at A gr2 y0 y1 y2 y3 y4 y5 y6 y7 y8 y9 c4
            go_wp2_with (go_at_call 68; refine A.out.mono ?_; rintro e w5 ⟨rfl, kB, kg⟩)
            exact ⟨⟨k + 1, by go_num, by omega, (by rw [HST.out, if_pos cs]; exact Lib.hid kB), grown_trans gr2 kg⟩, by simp [intOf]; omega⟩
          · have ds : ¬ ((x.st : Int) = 0) := by omega
            subst hW2
            go_wp2
            exact ⟨⟨k + 1, by go_num, by omega, (by rw [HST.out, if_neg cs]; exact HB2), gr2⟩, by simp [intOf]; omega⟩
        · have hke : k = ns.list.length := by omega
          subst hke
          have ik : ¬ ((ns.list.length : Int) < (ns.list.length : Int)) := by omega
          clear c
          go_wp2
          go_end0
          exact ⟨rfl, (by have := HA.out; rw [List.take_length] at this; exact this), grown_trans gW hg⟩
end Go.Proofs.YteibjmlimcpaoaaGreatDoor.W

set_option linter.unusedVariables false
set_option linter.unusedSimpArgs false
namespace Go.Proofs.YteibjmlimcpaoaaGreatDoor.W
open Go.RowKit Go.Sort

theorem infoBool : (Tryz.prog.info? 4).map (fun i => (i.zero, i.size, i.bytes)) = some (some (.bool false), 1, 1) := by kernel_rfl
theorem made_bools (n : Nat) : madeCells (Value.bool false).cells (n * 1) = ((List.replicate n false).map Value.bool).toArray := by
  apply Array.ext
  · simp [madeCells]
  · intro i h1 h2
    simp [madeCells, Value.cells, Nat.mod_one]
theorem marksT_len : ∀ (l : List Tw) (L : List Bool), (marksT l L).length = L.length
  | [], L => rfl
  | x :: l, L => by
    show (marksT l (if x.st = 0 then markL x.v true L else L)).length = _
    rw [marksT_len l]
    split
    · exact mark_len _ _ _
    · rfl
theorem marksT_take (l : List Tw) (k : Nat) (x : Tw) (h : l[k]? = some x) (L : List Bool) : marksT (l.take (k + 1)) L = if x.st = 0 then markL x.v true (marksT (l.take k) L) else marksT (l.take k) L := by
  rw [List.take_add_one, h]
  simp [marksT, List.foldl_append]

set_option maxRecDepth 100000 in
set_option maxHeartbeats 4000000 in
theorem lpubW (P : Pol) (T I : Value) (D : List UInt8) (w : World) (hD : D.length ≤ 9223372036854775807) (hp : PolIs P T I w) (hg : Gl w) (htab : w.cell? ⟨7, 15, none⟩ = some (.int .u8 4)) (L : List Bool) (er : Int) (hr : pubOf P D = (L, er)) :
    Calls Tryz.prog 47 #[pv T I P.text, strV D] w fun e w' => ∃ V, e = .returned (.tuple #[V, .int .i64 er]) ∧ (er ≠ 0 → V = .slice none 0 0 ∧ L = []) ∧ (er = 0 → ∃ g, V = .slice (some ⟨g, 0, none⟩) L.length L.length ∧ w.heap.size ≤ g ∧ BoolsAt g L w') ∧ Below w.heap.size w w' := by
  have hs1 := hp.tags
  have hs2 := hp.ids
  obtain ⟨ta, tc, hTe, _⟩ := hs1
  obtain ⟨ia, ic, hIe, _⟩ := hs2
  subst hTe hIe
  obtain ⟨W, hW⟩ : ∃ W, w.alloc (.cells #[.slice ta P.tags.length tc, .slice ia P.ids.length ic, .int .i64 P.text] 25) = W := ⟨_, rfl⟩
  have hbW : Below w.heap.size w W := by rw [← hW]; exact below_alloc _ _
  have sW : W.heap.size = w.heap.size + 1 := by rw [← hW]; simp
  have n0 : W.heap[w.heap.size]? = some (.cells #[.slice ta P.tags.length tc, .slice ia P.ids.length ic, .int .i64 P.text] 25 (0, 0)) := by rw [← hW]; exact new_at _ _
  have A1 := Lib.hid (refusalW P (.slice ta P.tags.length tc) (.slice ia P.ids.length ic) D W hD (hp.on hbW))
  have y0 := cellsAt n0 0
  have y1 := cellsAt n0 1
  have y2 := cellsAt n0 2
  simp only [List.getElem?_toArray, List.getElem?_cons_zero, List.getElem?_cons_succ] at y0 y1 y2
  unfold pv strV at A1 ⊢
  have HH := Lib.hid n0
  have HP := Lib.hid (And.intro hp (And.intro hg htab))
  have HR := Lib.hid hr
  obtain ⟨ee, hee⟩ : ∃ ee, refuseN P D.length = ee := ⟨_, rfl⟩
  rw [hee] at A1
  have HEE := Lib.hid hee
  have HDd := Lib.hid hD
  clear n0 hp hg htab hr hee hD
  go_enter Tryz.func47, Tryz.ntmps47
  go_wp2_with (go_at_call 53; refine A1.out.mono ?_; rintro e w1 ⟨rfl, hb1⟩; refine Hid.out ?_)
  have q0 := at_below HH.out hb1
  have hbw1 : Below w.heap.size w w1 := hbW.trans (hb1.mono (by omega))
  have s1 := hb1.size
  clear y0 y1 y2 A1 hW HH
  by_cases c0 : ee ≠ 0
  · have hr := HR.out
    have hin : pubOf P D = ([], ee) := by
      have := HEE.out
      unfold refuseN at this
      unfold pubOf
      split
      · rename_i h; rw [if_pos h] at this; rw [← this]
      · rename_i h
        rw [if_neg h] at this
        split
        · rename_i h2; rw [if_pos h2] at this; rw [← this]
        · rename_i h2; rw [if_neg h2] at this; exact absurd this.symm c0
    rw [hin] at hr
    have d0 : ¬ (ee = 0) := c0
    cases hr
    clear HR HP hin q0
    refine Lib.hid ?_
    go_wp2
    exact bodyPost_ret (v := .tuple #[.slice none 0 0, .int .i64 er]) (by simp [results, Tryz.results47, go_sem]) rfl (by first | exact ⟨_, rfl, fun _ => ⟨rfl, rfl⟩, fun e => absurd e d0, hbw1⟩ | exact ⟨_, rfl, rfl, hbw1⟩ | exact ⟨_, rfl, ⟨rfl, rfl⟩, hbw1⟩)
  · have hee0 : ee = 0 := by omega
    subst hee0
    have hok : P.ok = true ∧ D.length ≤ 2000 := by
      have := HEE.out
      unfold refuseN at this
      split at this
      · exact absurd this (by decide)
      · split at this
        · exact absurd this (by decide)
        · rename_i h1 h2; exact ⟨by simpa using h1, by omega⟩
    obtain ⟨m0, hm0⟩ : ∃ m0 : Mt, (⟨9223372036854775807, false, 0, 0⟩ : Mt) = m0 := ⟨_, rfl⟩
    obtain ⟨d, m1, h1⟩ : ∃ x y, (openP P D.length).run D m0 = (x, y) := ⟨_, _, rfl⟩
    obtain ⟨ns, m2, h2⟩ : ∃ x y, (namingP P d.tabs).run D m1 = (x, y) := ⟨_, _, rfl⟩
    have hr := HR.out
    unfold pubOf at hr
    rw [if_neg (by simp [hok.1]), if_neg (by omega), hm0] at hr
    unfold pubP at hr
    rw [Pr.run_bind, h1] at hr
    simp only at hr
    rw [Pr.run_bind, h2] at hr
    simp only [Pr.run] at hr
    have mk0 : MOk m0 := by rw [← hm0]; exact ⟨by simp, by simp, by simp⟩
    have A2 := Lib.hid (fopenW D 9223372036854775807 w1)
    rw [show (9223372036854775807 : Int).toNat = 9223372036854775807 from rfl, hm0] at A2
    unfold strV at A2
    have HRr := Lib.hid hr
    clear hm0 hr HR HEE
    refine Lib.hid ?_
    go_wp2_with (go_at_call 54; refine A2.out.mono ?_; rintro e w2 ⟨rfl, k2, hb2⟩; refine Hid.out ?_)
    obtain ⟨n, hn⟩ : ∃ n, D.length = n := ⟨_, rfl⟩
    obtain ⟨i0, hi, hz0, hz1, hz2⟩ := info_parts infoBool
    have hd : DB D.length d := by have := open_any D P D.length m0; rw [h1] at this; exact this
    have hns : SB D.length ns := by have := naming_any D P d.tabs D.length m1 hd.tabs; rw [h2] at this; exact this
    have mk1 : MOk m1 := by have := MOk.run D (openP P D.length) mk0; rw [h1] at this; exact this
    have mk2 : MOk m2 := by have := MOk.run D (namingP P d.tabs) mk1; rw [h2] at this; exact this
    have hn2 : n ≤ 2000 := by have := hok.2; omega
    have p0 := at_below q0 hb2
    have hbw2 : Below w.heap.size w w2 := hbw1.trans (hb2.mono (by omega))
    have sz2 : w1.heap.size < w2.heap.size := fl_lt k2
    have mk := run_make (P := Tryz.prog) w2 60 4 i0 (.bool false) Tryz.underlying60 hi hz0 .i64 .i64 (n : Int) (n : Int) (by omega) (Int.le_refl _) (by rw [hz2]; omega) (by omega)
    rw [hz1, Int.toNat_natCast, made_bools] at mk
    obtain ⟨W3, hW3⟩ : ∃ W3, w2.alloc (.cells ((List.replicate n false).map Value.bool).toArray 4) = W3 := ⟨_, rfl⟩
    have B3 : BoolsAt w2.heap.size (List.replicate n false) W3 := by rw [← hW3]; exact new_at _ _
    have b3 : Below w2.heap.size w2 W3 := by rw [← hW3]; exact below_alloc _ _
    rw [hW3] at mk
    have k3 := fl_below k2 b3
    have A3 := Lib.hid (fsizeW w1.heap.size m0 D w2 hok.2 k2)
    have A4 := Lib.hid (fwinW w1.heap.size m0 D 0 12 W3 hok.2 (by omega) (by omega) k3)
    rw [hn] at A3 A4
    unfold wv at A4
    simp only [Int.ofNat_zero, Int.natCast_zero, Int.cast_ofNat_Int] at A4
    have hcut : ((Wn.mk 0 n).cut 0 12).b + ((Wn.mk 0 n).cut 0 12).s ≤ n := by unfold Wn.cut; simp only; omega
    have A5 := Lib.hid (fun w' (h : BoolsAt w2.heap.size (List.replicate n false) w') => markW w2.heap.size n (some ⟨w1.heap.size, 0, none⟩) ((Wn.mk 0 n).cut 0 12) true (List.replicate n false) w' (by simp; omega) (by simpa using hcut) h)
    rw [List.length_replicate] at A5
    unfold wq at A5
    obtain ⟨cu, hcu⟩ : ∃ cu, (Wn.mk 0 n).cut 0 12 = cu := ⟨_, rfl⟩
    rw [hcu] at A4 A5 hcut
    have HCu := Lib.hid hcu
    clear hcu
    have HX := Lib.hid (And.intro h1 (And.intro h2 (And.intro hd (And.intro hns (And.intro hok hcut)))))
    clear h1 h2 hd hns hok hcut A2 q0
    refine Lib.hid ?_
    go_wp2_with (first | (go_at_call 67; refine A3.out.mono ?_; rintro e wz ⟨rfl, hwz⟩; have hwz := hwz.symm; subst hwz) | (go_at_call 69; refine A4.out.mono ?_; rintro e w4 ⟨rfl, hb4⟩) | (go_at_call 68; refine (A5.out w4 (at_below B3 hb4)).mono ?_; rintro e w5 ⟨rfl, kB5, g5⟩; refine Hid.out ?_))
    obtain ⟨h1, h2, hd, hns, hok, hcut⟩ := HX.out
    have sz3 := b3.size
    have sz4 := hb4.size
    have k5 : FlAt w1.heap.size m0 D w5 := grown_at g5 (fl_below k3 hb4) (by omega)
    have pol5 := grown_at g5 (at_below (at_below p0 b3) hb4) (by omega)
    have hbw5 : Below w.heap.size w w5 := ((hbw2.trans (b3.mono hbw2.size)).trans (hb4.mono (Nat.le_trans hbw2.size sz3))).grown g5 (Nat.le_trans (Nat.le_trans hbw2.size sz3) sz4) (fun j hj => by cases hj; omega)
    have en5 : En P (.slice ta P.tags.length tc) (.slice ia P.ids.length ic) w1.heap.size w5 := ⟨w, hbw5, by omega, HP.out.1, HP.out.2.1, HP.out.2.2⟩
    have A6 := Lib.hid (openW w1.heap.size P _ _ m0 D w5 (ok_len hok.1).1 hok.2 mk0 k5 en5 d m1 h1)
    unfold pv at A6
    have y0 := cellsAt pol5 0
    have y1 := cellsAt pol5 1
    have y2 := cellsAt pol5 2
    simp only [List.getElem?_toArray, List.getElem?_cons_zero, List.getElem?_cons_succ] at y0 y1 y2
    have sz5 := g5.size
    have lb5 := at_lt kB5
    have HE5 := Lib.hid en5
    clear h1 h2 hd hns hok hcut A3 A4 A5 mk hW3 B3 b3 k3 hb4 g5 k2 p0 hb2 en5
    refine Lib.hid ?_
    go_wp2_with (go_at_call 70; refine A6.out.mono ?_; rintro e w6 ⟨VT, rfl, t6, k6, g6⟩; refine Hid.out ?_)
    obtain ⟨h1, h2, hd, hns, hok, hcut⟩ := HX.out
    obtain ⟨va, vc, hV⟩ := own_slice t6
    subst hV
    obtain ⟨fq, hfq⟩ : ∃ fq, (if d.here = true then some (⟨w1.heap.size, 0, none⟩ : Addr) else none) = fq := ⟨_, rfl⟩
    unfold dv
    rw [hfq]
    have HF := Lib.hid hfq
    have sz6 := g6.size
    obtain ⟨W7, hW7⟩ : ∃ W7, w6.alloc (.cells #[.int .i64 (d.kind : Int), .pointer fq, .pointer fq, .int .i64 (d.recs.b : Int), .int .i64 (d.recs.s : Int), .slice va d.tabs.length vc] 130) = W7 := ⟨_, rfl⟩
    have b7 : Below w6.heap.size w6 W7 := by rw [← hW7]; exact below_alloc _ _
    have dir7 : W7.heap[w6.heap.size]? = some (.cells #[.int .i64 (d.kind : Int), .pointer fq, .pointer fq, .int .i64 (d.recs.b : Int), .int .i64 (d.recs.s : Int), .slice va d.tabs.length vc] 130 (0, 0)) := by rw [← hW7]; exact new_at _ _
    have kB7 : BoolsAt w2.heap.size (markL cu true (List.replicate n false)) W7 := at_below (grown_at g6 kB5 (by omega)) b7
    have pol7 := at_below (grown_at g6 pol5 (by omega)) b7
    have k7 := fl_below k6 b7
    have t7 := own_any t6 b7
    have en7 := (HE5.out.grow g6).below b7
    have hbw7 : Below w.heap.size w W7 := (hbw5.grown g6 hbw5.size (fun j hj => by cases hj; omega)).trans (b7.mono (Nat.le_trans hbw5.size sz6))
    have hlen7 : (markL cu true (List.replicate n false)).length = n := by rw [mark_len, List.length_replicate]
    have hrecs := hd.recs
    rw [hn] at hrecs
    have A7 := Lib.hid (markW w2.heap.size n fq d.recs true (markL cu true (List.replicate n false)) W7 (by omega) (by rw [hlen7]; exact hrecs) kB7)
    rw [hlen7] at A7
    unfold wq at A7
    have u2 := cellsAt dir7 2
    have u3 := cellsAt dir7 3
    have u4 := cellsAt dir7 4
    simp only [List.getElem?_toArray, List.getElem?_cons_zero, List.getElem?_cons_succ] at u2 u3 u4
    have HM := Lib.hid (And.intro pol7 (And.intro k7 (And.intro t7 en7)))
    clear y0 y1 y2 A6 h1 h2 hd hns hok hcut pol7 k7 t7 en7 t6 k6 g6 b7 kB5 pol5 k5 HE5
    subst hW7
    refine Lib.hid ?_
    go_wp2_with (go_at_call 68; refine A7.out.mono ?_; rintro e w8 ⟨rfl, kB8, g8⟩; refine Hid.out ?_)
    obtain ⟨pol7, k7, t7, en7⟩ := HM.out
    have l7 := at_lt dir7
    have pol8 := grown_at g8 pol7 (by omega)
    have k8 : FlAt w1.heap.size m1 D w8 := grown_at g8 k7 (by omega)
    have hgn := own_kind_ne' t7 kB7 (by decide)
    have t8 := World.ownsRow.kept t7 g8 (.inr hgn)
    have dir8 := grown_at g8 dir7 (by omega)
    have hbw8 : Below w.heap.size w w8 := hbw7.grown g8 hbw7.size (fun j hj => by cases hj; omega)
    obtain ⟨L1, hL1⟩ : ∃ L1, markL d.recs true (markL cu true (List.replicate n false)) = L1 := ⟨_, rfl⟩
    rw [hL1] at kB8
    have hlen8 : L1.length = n := by rw [← hL1, mark_len]; exact hlen7
    have HL1 := Lib.hid hL1
    have HLn := Lib.hid hlen8
    have u5 := cellsAt dir8 5
    simp only [List.getElem?_toArray, List.getElem?_cons_zero, List.getElem?_cons_succ] at u5
    have HT := Lib.hid t8
    have HD8 := Lib.hid dir8
    have HK8 := Lib.hid (And.intro k8 pol8)
    have HB8 := Lib.hid kB8
    have sz8 := g8.size
    clear u2 u3 u4 HM pol7 k7 t7 en7 A7 dir7 g8 kB7 hlen7 hL1 hlen8 t8 dir8 k8 pol8 hfq kB8
    refine Lib.hid ?_
    go_wp2_with fail
    clear u5
    go_loopw [37] (fun is wr => ∃ (k : Nat), is = .int .i64 (k : Int) ∧ k ≤ d.tabs.length ∧ Hid (BoolsAt w2.heap.size (marksT (d.tabs.take k) L1) wr) ∧ w8.grownBy wr (some w2.heap.size)) (fun is _ => d.tabs.length - (intOf is).toNat)
    case atStart => exact ⟨0, rfl, Nat.zero_le _, (by simp only [List.take_zero]; exact HB8), World.grownBy.refl _ _⟩
    case round =>
      obtain ⟨k, rfl, hk, HA, hg⟩ := hrel
      have hdl := HX.out.2.2.1.len
      by_cases c : k < d.tabs.length
      · obtain ⟨x, hxk⟩ : ∃ x, d.tabs[k]? = some x := ⟨_, List.getElem?_eq_getElem c⟩
        have ik : (k : Int) < (d.tabs.length : Int) := by omega
        have ik0 : (0 : Int) ≤ (k : Int) := by omega
        have own1 : TabsAt w5.heap.size w1.heap.size d.tabs (.slice va d.tabs.length vc) wr := World.ownsRow.kept HT.out hg (.inr hgn)
        obtain ⟨gg, cap', cs, hve, hbg, hgg⟩ := own_form own1 (by omega)
        cases hve
        obtain ⟨c0, c1, c2, c3, c4, c5⟩ := tab_cells own1 k x hxk
        have hnb := (HX.out.2.2.1.tabs x (List.mem_of_getElem? hxk)).v
        rw [hn] at hnb
        unfold strV at c0
        obtain ⟨W9, hW9⟩ : ∃ W9, wr.alloc (.cells #[.string ⟨x.tag.toArray⟩, .int .i64 (x.st : Int), .int .i64 (x.size : Int), .pointer (some ⟨w1.heap.size, 0, none⟩), .int .i64 (x.v.b : Int), .int .i64 (x.v.s : Int)] 133) = W9 := ⟨_, rfl⟩
        have b9 : Below wr.heap.size wr W9 := by rw [← hW9]; exact below_alloc _ _
        have n9 : W9.heap[wr.heap.size]? = some (.cells #[.string ⟨x.tag.toArray⟩, .int .i64 (x.st : Int), .int .i64 (x.size : Int), .pointer (some ⟨w1.heap.size, 0, none⟩), .int .i64 (x.v.b : Int), .int .i64 (x.v.s : Int)] 133 (0, 0)) := by rw [← hW9]; exact new_at _ _
        have hst := marksT_take d.tabs k x hxk L1
        have hB9 := at_below HA.out b9
        have hlen : (marksT (d.tabs.take k) L1).length = n := by rw [marksT_len]; exact HLn.out
        have gr9 := grown_trans hg (grown_below (some w2.heap.size) b9)
        have A := Lib.hid (markW w2.heap.size n (some ⟨w1.heap.size, 0, none⟩) x.v true (marksT (d.tabs.take k) L1) W9 (by omega) (by rw [hlen]; exact hnb) hB9)
        rw [hlen] at A
        unfold wq at A
        have HST := Lib.hid hst
        have HB9 := Lib.hid hB9
        have y0 := cellsAt n9 0
        have y1 := cellsAt n9 1
        have y2 := cellsAt n9 2
        have y3 := cellsAt n9 3
        have y4 := cellsAt n9 4
        have y5 := cellsAt n9 5
        simp only [List.getElem?_toArray, List.getElem?_cons_zero, List.getElem?_cons_succ] at y0 y1 y2 y3 y4 y5
        clear own1 hgg hxk hst hB9 hlen HA hnb
        by_cases cs : x.st = 0
        · have ds : ((x.st : Int) = 0) := by omega
          subst hW9
          simp only [ds] at A gr9 y0 y1 y2 y3 y4 y5 c1
          go_wp2_with (go_at_call 68; refine A.out.mono ?_; rintro e wB ⟨rfl, kB, kg⟩)
          exact ⟨⟨k + 1, by go_num, by omega, (by rw [HST.out, if_pos cs]; exact Lib.hid kB), grown_trans gr9 kg⟩, by simp [intOf]; omega⟩
        · have ds : ¬ ((x.st : Int) = 0) := by omega
          subst hW9
          go_wp2
          exact ⟨⟨k + 1, by go_num, by omega, (by rw [HST.out, if_neg cs]; exact HB9), gr9⟩, by simp [intOf]; omega⟩
      · have hke : k = d.tabs.length := by omega
        subst hke
        have ik : ¬ ((d.tabs.length : Int) < (d.tabs.length : Int)) := by omega
        clear c
        have hm1 := HA.out
        rw [List.take_length] at hm1
        obtain ⟨h1, h2, hd, hns, hok, hcut⟩ := HX.out
        have own1 : TabsAt w5.heap.size w1.heap.size d.tabs (.slice va d.tabs.length vc) wr := World.ownsRow.kept HT.out hg (.inr hgn)
        have kr : FlAt w1.heap.size m1 D wr := grown_at hg HK8.out.1 (by omega)
        have polr := grown_at hg HK8.out.2 (by omega)
        have dirr := grown_at hg HD8.out (by omega)
        have hbwr : Below w.heap.size w wr := hbw8.grown hg hbw8.size (fun j hj => by cases hj; omega)
        have enr : En P (.slice ta P.tags.length tc) (.slice ia P.ids.length ic) w1.heap.size wr := ⟨w, hbwr, by omega, HP.out.1, HP.out.2.1, HP.out.2.2⟩
        have szr := hg.size
        have A8 := Lib.hid (namingW w1.heap.size w5.heap.size P _ _ (.slice va d.tabs.length vc) d m1 D wr (ok_len hok.1).2 hok.2 (by omega) (by omega) hd mk1 kr enr own1 ns m2 h2)
        unfold dv pv at A8
        rw [HF.out] at A8
        have hlenT : (marksT d.tabs L1).length = n := by rw [marksT_len]; exact HLn.out
        rw [hn] at hns
        have A9 := Lib.hid (fun VL w' hB b nn => hideW w1.heap.size wr.heap.size w2.heap.size n n ns VL (marksT d.tabs L1) w' hlenT hn2 hns hB b nn)
        have hfin := HRr.out
        unfold pubL at hfin
        rw [hn, HCu.out, HL1.out] at hfin
        have HFin := Lib.hid hfin
        have HLT := Lib.hid hlenT
        have y0 := cellsAt polr 0
        have y1 := cellsAt polr 1
        have y2 := cellsAt polr 2
        have u0 := cellsAt dirr 0
        have u1 := cellsAt dirr 1
        have u2 := cellsAt dirr 2
        have u3 := cellsAt dirr 3
        have u4 := cellsAt dirr 4
        have u5 := cellsAt dirr 5
        simp only [List.getElem?_toArray, List.getElem?_cons_zero, List.getElem?_cons_succ] at y0 y1 y2 u0 u1 u2 u3 u4 u5
        have HM1 := Lib.hid hm1
        clear h1 h2 hd hns hok hcut hfin hlenT HRr HX HP enr own1 hm1 HA
        go_wp2_with (first | (go_at_call 72; refine A8.out.mono ?_; rintro e wX ⟨VL, rfl, nX, kX, gX⟩; have bX := grown_at gX HM1.out (by omega)) | (go_at_call 71; refine (A9.out VL wX gX.size bX nX).mono ?_; rintro e wY ⟨rfl, bY, gY⟩; refine Hid.out ?_))
        have hbwY : Below w.heap.size w wY := (hbwr.grown gX hbwr.size (fun j hj => by cases hj; omega)).grown gY (Nat.le_trans hbwr.size gX.size) (fun j hj => by cases hj; omega)
        have hfin := HFin.out
        have hLn : (marksN 0 true ns.list (markL ns.ahead true (marksN 4 false ns.list (marksT d.tabs L1)))).length = n := by rw [marks_len, mark_len, marks_len]; exact HLT.out
        clear A8 A9 y0 y1 y2 u0 u1 u2 u3 u4 u5 HFin HLT
        refine Lib.hid ?_
        go_wp2
        cases hfin
        exact bodyPost_ret (v := .tuple #[.slice (some ⟨w2.heap.size, 0, none⟩) n n, .int .i64 0]) (by simp [results, Tryz.results47, go_sem]) rfl ⟨_, rfl, fun e => absurd rfl e, fun _ => ⟨w2.heap.size, by rw [hLn], by omega, bY⟩, hbwY⟩
end Go.Proofs.YteibjmlimcpaoaaGreatDoor.W

set_option linter.unusedVariables false
set_option linter.unusedSimpArgs false
namespace Go.Proofs.YteibjmlimcpaoaaGreatDoor.W
open Go.RowKit Go.Sort

set_option maxRecDepth 100000 in
set_option maxHeartbeats 4000000 in
theorem publicW (P : Pol) (T I : Value) (D : List UInt8) (w : World) (hD : D.length ≤ 9223372036854775807) (hp : PolIs P T I w) (hg : Gl w) (htab : w.cell? ⟨7, 15, none⟩ = some (.int .u8 4)) (L : List Bool) (er : Int) (hr : pubOf P D = (L, er)) :
    Calls Tryz.prog 22 #[pv T I P.text, strV D] w fun e w' => ∃ V, e = .returned (.tuple #[V, .int .i64 er]) ∧ (er ≠ 0 → V = .slice none 0 0 ∧ L = []) ∧ (er = 0 → ∃ g, V = .slice (some ⟨g, 0, none⟩) L.length L.length ∧ w.heap.size ≤ g ∧ BoolsAt g L w') ∧ Below w.heap.size w w' := by
  have hs1 := hp.tags
  have hs2 := hp.ids
  obtain ⟨ta, tc, hTe, _⟩ := hs1
  obtain ⟨ia, ic, hIe, _⟩ := hs2
  subst hTe hIe
  obtain ⟨W, hW⟩ : ∃ W, w.alloc (.cells #[.slice ta P.tags.length tc, .slice ia P.ids.length ic, .int .i64 P.text] 25) = W := ⟨_, rfl⟩
  have hbW : Below w.heap.size w W := by rw [← hW]; exact below_alloc _ _
  have n0 : W.heap[w.heap.size]? = some (.cells #[.slice ta P.tags.length tc, .slice ia P.ids.length ic, .int .i64 P.text] 25 (0, 0)) := by rw [← hW]; exact new_at _ _
  have A1 := Lib.hid (lpubW P (.slice ta P.tags.length tc) (.slice ia P.ids.length ic) D W hD (hp.on hbW) (hg.on hbW) ((hbW.cell (p := ⟨7, 15, none⟩) (cell_lt htab)).trans htab) L er hr)
  have y0 := cellsAt n0 0
  have y1 := cellsAt n0 1
  have y2 := cellsAt n0 2
  simp only [List.getElem?_toArray, List.getElem?_cons_zero, List.getElem?_cons_succ] at y0 y1 y2
  unfold pv strV at A1 ⊢
  clear n0 hp hg htab hr hD
  go_enter Tryz.func22, Tryz.ntmps22
  go_wp2_with (go_at_call 47; refine A1.out.mono ?_; rintro e w1 ⟨V, rfl, hv1, hv2, hb1⟩; refine Hid.out ?_)
  have hbw1 : Below w.heap.size w w1 := hbW.trans (hb1.mono hbW.size)
  have hv3 : er = 0 → ∃ g, V = .slice (some ⟨g, 0, none⟩) L.length L.length ∧ w.heap.size ≤ g ∧ BoolsAt g L w1 := fun e => by
    obtain ⟨g, h1, h2, h3⟩ := hv2 e
    exact ⟨g, h1, Nat.le_trans hbW.size h2, h3⟩
  have HV := Lib.hid (And.intro hv1 (And.intro hv3 hbw1))
  clear y0 y1 y2 A1 hW hv1 hv2 hv3 hb1 hbw1
  refine Lib.hid ?_
  go_wp2
  exact bodyPost_ret (v := .tuple #[V, .int .i64 er]) (by simp [results, Tryz.results22, go_sem]) rfl ⟨V, rfl, HV.out.1, HV.out.2.1, HV.out.2.2⟩
end Go.Proofs.YteibjmlimcpaoaaGreatDoor.W
