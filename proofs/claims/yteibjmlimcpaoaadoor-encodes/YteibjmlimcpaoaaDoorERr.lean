/-
  What report.right answers, for every report wherever its lists lie; nothing that lay in memory turns.
-/
import Derived.Test.YteibjmlimcpaoaaDoorERn
import Derived.Test.YteibjmlimcpaoaaDoorEWp
set_option linter.unusedVariables false
set_option linter.unusedSimpArgs false
namespace Go.Proofs.YteibjmlimcpaoaaDoor
open Go.RowKit Go.Sort

theorem belowAt {w w' : World} {k : Nat} {o : Obj} (hb : Below w.heap.size w w') (h : w.heap[k]? = some o) : w'.heap[k]? = some o := by
  rw [hb.block k (Array.getElem?_eq_some_iff.1 h).1]
  exact h
theorem allocOld {w : World} {k : Nat} {o o' : Obj} (h : w.heap[k]? = some o) : (w.alloc o').heap[k]? = some o :=
  (Lib.alloc_old w o' k (Array.getElem?_eq_some_iff.1 h).1).trans h

def rightB (kind hs hf hu rs rv rb nm cs cf cc : Int) (lt : List Tab) (ln : List Nm) : Bool :=
  [kind].all (toB 3) && (decide (lt.length ≤ 16) && lt.all tabOk) && [hs, rs, nm, cs].all (toB 8) && [hf, hu, rv, rb, cf].all (toB 65535) && (decide (ln.length ≤ 20) && ln.all nmOk) && [cc].all (toB 1114112)

set_option maxRecDepth 100000 in
set_option maxHeartbeats 4000000 in
theorem right46 (kind hs hf hu rs rv rb nm cs cf cc : Int) (T N : Value) (lt : List Tab) (ln : List Nm) (w : World)
    (hlt : lt.length ≤ 9223372036854775807) (hln : ln.length ≤ 9223372036854775807) (htx : ∀ x ∈ ln, x.tx.size ≤ 9223372036854775807) (hT : RowIs w T lt.length (tcells lt)) (hN : RowIs w N ln.length (ncells ln)) (hu' : Utabs w) :
    Calls Tryd.prog 56 #[.agg #[.int .i64 kind, T, .int .i64 hs, .int .i64 hf, .int .i64 hu, .int .i64 rs, .int .i64 rv, .int .i64 rb, .int .i64 nm, N, .int .i64 cs, .int .i64 cf, .int .i64 cc]] w
      fun e w' => e = .returned (.bool (rightB kind hs hf hu rs rv rb nm cs cf cc lt ln)) ∧ Below w.heap.size w w' := by
  have HT := Lib.hid hT
  have HN := Lib.hid hN
  have HU := Lib.hid hu'
  have hTs : ∃ ao n cap, T = .slice ao n cap := by obtain ⟨ao, cap, h, _⟩ := hT; exact ⟨_, _, _, h⟩
  have hNs : ∃ ao n cap, N = .slice ao n cap := by obtain ⟨ao, cap, h, _⟩ := hN; exact ⟨_, _, _, h⟩
  obtain ⟨tao, tn, tcap, hTe⟩ := hTs
  obtain ⟨nao, nn, ncap, hNe⟩ := hNs
  subst hTe hNe
  clear hT hN hu'
  have a0 := allocAt w (.cells #[.int .i64 kind, .slice tao tn tcap, .int .i64 hs, .int .i64 hf, .int .i64 hu, .int .i64 rs, .int .i64 rv, .int .i64 rb, .int .i64 nm, .slice nao nn ncap, .int .i64 cs, .int .i64 cf, .int .i64 cc] 37)
  have bw0 : Below w.heap.size w (w.alloc (.cells #[.int .i64 kind, .slice tao tn tcap, .int .i64 hs, .int .i64 hf, .int .i64 hu, .int .i64 rs, .int .i64 rv, .int .i64 rb, .int .i64 nm, .slice nao nn ncap, .int .i64 cs, .int .i64 cf, .int .i64 cc] 37)) := (Below.refl _ _).alloc (Nat.le_refl _) _
  have bw1 : Below w.heap.size w ((w.alloc (.cells #[.int .i64 kind, .slice tao tn tcap, .int .i64 hs, .int .i64 hf, .int .i64 hu, .int .i64 rs, .int .i64 rv, .int .i64 rb, .int .i64 nm, .slice nao nn ncap, .int .i64 cs, .int .i64 cf, .int .i64 cc] 37)).alloc (.cells #[.int .i64 kind] 3)) := bw0.alloc bw0.size _
  have a1 := allocOld (o' := .cells #[.int .i64 kind] 3) a0
  have W1 := Lib.hid (withinN 3 [kind] (w.alloc (.cells #[.int .i64 kind, .slice tao tn tcap, .int .i64 hs, .int .i64 hf, .int .i64 hu, .int .i64 rs, .int .i64 rv, .int .i64 rb, .int .i64 nm, .slice nao nn ncap, .int .i64 cs, .int .i64 cf, .int .i64 cc] 37)) (w.heap.size + 1) #[.int .i64 kind] 1 (by simp) rfl rfl (by decide) _ rfl)
  have W2 := Lib.hid (tables57 (.slice tao tn tcap) lt ((w.alloc (.cells #[.int .i64 kind, .slice tao tn tcap, .int .i64 hs, .int .i64 hf, .int .i64 hu, .int .i64 rs, .int .i64 rv, .int .i64 rb, .int .i64 nm, .slice nao nn ncap, .int .i64 cs, .int .i64 cf, .int .i64 cc] 37)).alloc (.cells #[.int .i64 kind] 3)) hlt (HT.out.on bw1))
  have W3 := Lib.hid (fun (w1 : World) => withinN 8 [hs, rs, nm, cs] w1 w1.heap.size #[.int .i64 hs, .int .i64 rs, .int .i64 nm, .int .i64 cs] 4 rfl rfl rfl (by decide) _ rfl)
  have W4 := Lib.hid (fun (w1 : World) => withinN 65535 [hf, hu, rv, rb, cf] (w1.alloc (.cells #[.int .i64 hs, .int .i64 rs, .int .i64 nm, .int .i64 cs] 3)) (w1.heap.size + 1) #[.int .i64 hf, .int .i64 hu, .int .i64 rv, .int .i64 rb, .int .i64 cf] 5 (by simp) rfl rfl (by decide) _ rfl)
  have W5 := Lib.hid (fun (w1 : World) (h : Below w.heap.size w w1) => names58 (.slice nao nn ncap) ln w1 hln htx (HN.out.on h) (HU.out.below h))
  have W6 := Lib.hid (fun (w1 : World) => withinN 1114112 [cc] w1 w1.heap.size #[.int .i64 cc] 1 rfl rfl rfl (by decide) _ rfl)
  unfold rightB
  generalize [kind].all (toB 3) = r1 at *
  generalize (decide (lt.length ≤ 16) && lt.all tabOk) = r2 at *
  generalize [hs, rs, nm, cs].all (toB 8) = r3 at *
  generalize [hf, hu, rv, rb, cf].all (toB 65535) = r4 at *
  generalize (decide (ln.length ≤ 20) && ln.all nmOk) = r5 at *
  generalize [cc].all (toB 1114112) = r6 at *
  clear HT HN HU
  go_enter Tryd.func56, Tryd.ntmps56
  go_wp2_with (go_at_call 79; refine W1.out.mono ?_; rintro e w4 ⟨rfl, rfl⟩; refine Hid.out ?_)
  clear W1
  cases r1
  · refine Lib.hid ?_
    go_wp2
    go_ret
    exact ⟨rfl, bw1⟩
  refine Lib.hid ?_
  go_wp2_with (go_at_call 80; refine W2.out.mono ?_; rintro e w1 ⟨rfl, hb1⟩; refine Hid.out ?_)
  clear W2
  have a2 := belowAt hb1 a1
  have bw2 := bw1.trans (hb1.mono bw1.size)
  clear a0 a1 bw0 bw1 hb1
  cases r2
  · refine Lib.hid ?_
    go_wp2
    go_ret
    exact ⟨rfl, bw2⟩
  have y2 := cellsAt a2 2
  have y3 := cellsAt a2 3
  have y4 := cellsAt a2 4
  have y5 := cellsAt a2 5
  have y6 := cellsAt a2 6
  have y7 := cellsAt a2 7
  have y8 := cellsAt a2 8
  have y9 := cellsAt a2 9
  have y10 := cellsAt a2 10
  have y11 := cellsAt a2 11
  simp only [List.getElem?_toArray, List.getElem?_cons_zero, List.getElem?_cons_succ] at y2 y3 y4 y5 y6 y7 y8 y9 y10 y11
  have bw3 : Below w.heap.size w (w1.alloc (.cells #[.int .i64 hs, .int .i64 rs, .int .i64 nm, .int .i64 cs] 3)) := bw2.alloc bw2.size _
  have bw4 : Below w.heap.size w ((w1.alloc (.cells #[.int .i64 hs, .int .i64 rs, .int .i64 nm, .int .i64 cs] 3)).alloc (.cells #[.int .i64 hf, .int .i64 hu, .int .i64 rv, .int .i64 rb, .int .i64 cf] 3)) := bw3.alloc bw3.size _
  have hlt1 : w.heap.size < w1.heap.size := (Array.getElem?_eq_some_iff.1 a2).1
  refine Lib.hid ?_
  go_wp2_with (go_at_call 79; refine (W3.out _).mono ?_; rintro e w4 ⟨rfl, rfl⟩; refine Hid.out ?_)
  clear W3
  cases r3
  · refine Lib.hid ?_
    go_wp2
    go_ret
    exact ⟨rfl, bw3⟩
  refine Lib.hid ?_
  go_wp2_with (go_at_call 79; refine (W4.out _).mono ?_; rintro e w4 ⟨rfl, rfl⟩; refine Hid.out ?_)
  clear W4
  cases r4
  · refine Lib.hid ?_
    go_wp2
    go_ret
    exact ⟨rfl, bw4⟩
  refine Lib.hid ?_
  go_wp2_with (go_at_call 81; refine (W5.out _ bw4).mono ?_; rintro e w5 ⟨rfl, hb5⟩; refine Hid.out ?_)
  have bw5 := bw4.trans (hb5.mono bw4.size)
  have a5 := belowAt hb5 (allocOld (allocOld a2))
  clear W5 y2 y3 y4 y5 y6 y7 y8 y9 y10 y11 a2 bw2 bw3 bw4 hb5
  cases r5
  · refine Lib.hid ?_
    go_wp2
    go_ret
    exact ⟨rfl, bw5⟩
  have y12 := cellsAt a5 12
  simp only [List.getElem?_toArray, List.getElem?_cons_zero, List.getElem?_cons_succ] at y12
  have bw6 : Below w.heap.size w (w5.alloc (.cells #[.int .i64 cc] 3)) := bw5.alloc bw5.size _
  refine Lib.hid ?_
  go_wp2_with (go_at_call 79; refine (W6.out _).mono ?_; rintro e w4 ⟨rfl, rfl⟩; refine Hid.out ?_)
  cases r6
  all_goals
    refine Lib.hid ?_
    go_wp2
    go_ret
    exact ⟨rfl, bw6⟩
end Go.Proofs.YteibjmlimcpaoaaDoor
