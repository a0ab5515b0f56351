/-
  The law Back answers true, and leaves alone what lay in memory.
-/
import Derived.Test.YteibjmlimcpaoaaGreatDoorDa
import Derived.Test.YteibjmlimcpaoaaGreatDoorKa
set_option linter.unusedVariables false
set_option linter.unusedSimpArgs false
namespace Go.Proofs.YteibjmlimcpaoaaGreatDoor.K
open Go.RowKit Go.Sort
open Go.Proofs.YteibjmlimcpaoaaGreatDoor.W (at_below at_alloc new_at below_alloc)

theorem row_nil (w : World) : RowIs w (.slice none 0 0) 0 [] := ⟨none, 0, rfl, fun h => by simp at h⟩

set_option maxRecDepth 100000 in
set_option maxHeartbeats 1000000 in
theorem backK (b : List UInt8) (w : World) (hl : b.length ≤ 9223372036854775807) (hu : Utabs w) (hK : Calls Tryz.prog 25 #[] w fun e w' => e = .returned (.bool true) ∧ Below w.heap.size w w') :
    Calls Tryz.prog 5 #[.string ⟨b.toArray⟩] w fun e w' => e = .returned (.bool true) ∧ Below w.heap.size w w' := by
  have CK := Lib.hid hK
  have CD := Lib.hid (fun (x : World) (h : Below w.heap.size w x) => dec15 b x hl (hu.below h))
  have HU := Lib.hid (fun (x : World) (h : Below w.heap.size w x) => hu.below h)
  clear hK hu
  unfold DecIs at CD
  cases hd : decOf b with
  | none =>
    rw [hd] at CD
    unfold zeroR at CD
    simp only at CD
    go_enter Tryz.func5, Tryz.ntmps5
    go_wp2_with (go_at_call 25; refine CK.out.mono ?_; rintro e w1 ⟨rfl, hb1⟩; refine Hid.out ?_)
    have C1 := Lib.hid (CD.out w1 hb1)
    clear CK CD
    refine Lib.hid ?_
    go_wp2_with (go_at_call 26; refine C1.out.mono ?_; rintro e w2 ⟨v, rfl, rfl, hb2⟩; refine Hid.out ?_)
    have b2 := hb1.trans (hb2.mono hb1.size)
    obtain ⟨W2, hW2⟩ : ∃ W, w2.alloc (.cells #[.int .i64 0, .slice none 0 0, .int .i64 0, .int .i64 0, .int .i64 0, .int .i64 0, .int .i64 0, .int .i64 0, .int .i64 0, .slice none 0 0, .int .i64 0, .int .i64 0, .int .i64 0] 39) = W := ⟨_, rfl⟩
    have g2 : Below w2.heap.size w2 W2 := by rw [← hW2]; exact below_alloc _ _
    have p2 : W2.heap[w2.heap.size]? = some (.cells #[.int .i64 0, .slice none 0 0, .int .i64 0, .int .i64 0, .int .i64 0, .int .i64 0, .int .i64 0, .int .i64 0, .int .i64 0, .slice none 0 0, .int .i64 0, .int .i64 0, .int .i64 0] 39 (0, 0)) := by rw [← hW2]; exact new_at _ _
    have bW2 := b2.trans (g2.mono b2.size)
    obtain ⟨y, hy⟩ : ∃ y, encOf 0 0 0 0 0 0 0 0 0 0 0 (tabsR []) (nmsR []) = y := ⟨_, rfl⟩
    have C2 := Lib.hid (enc11 0 0 0 0 0 0 0 0 0 0 0 (.slice none 0 0) (.slice none 0 0) [] [] W2 (by simp) (by simp) (by simp) (row_nil _) (row_nil _) (HU.out W2 bW2) y hy)
    clear hy
    have x0 := cellsAt p2 0
    have x1 := cellsAt p2 1
    have x2 := cellsAt p2 2
    have x3 := cellsAt p2 3
    have x4 := cellsAt p2 4
    have x5 := cellsAt p2 5
    have x6 := cellsAt p2 6
    have x7 := cellsAt p2 7
    have x8 := cellsAt p2 8
    have x9 := cellsAt p2 9
    have x10 := cellsAt p2 10
    have x11 := cellsAt p2 11
    have x12 := cellsAt p2 12
    simp only [List.getElem?_toArray, List.getElem?_cons_zero, List.getElem?_cons_succ] at x0 x1 x2 x3 x4 x5 x6 x7 x8 x9 x10 x11 x12
    clear C1
    subst hW2
    refine Lib.hid ?_
    go_wp2_with (go_at_call 27; refine C2.out.mono ?_; rintro e w3 ⟨rfl, hb3⟩; refine Hid.out ?_)
    have b3 := bW2.trans (hb3.mono bW2.size)
    have p3 := at_below p2 hb3
    clear C2 x0 x1 x2 x3 x4 x5 x6 x7 x8 x9 x10 x11 x12
    have x0 := cellsAt p3 0
    have x1 := cellsAt p3 1
    have x2 := cellsAt p3 2
    have x3 := cellsAt p3 3
    have x4 := cellsAt p3 4
    have x5 := cellsAt p3 5
    have x6 := cellsAt p3 6
    have x7 := cellsAt p3 7
    have x8 := cellsAt p3 8
    have x9 := cellsAt p3 9
    have x10 := cellsAt p3 10
    have x11 := cellsAt p3 11
    have x12 := cellsAt p3 12
    simp only [List.getElem?_toArray, List.getElem?_cons_zero, List.getElem?_cons_succ] at x0 x1 x2 x3 x4 x5 x6 x7 x8 x9 x10 x11 x12
    have C3 := Lib.hid (sameK0 0 0 0 0 0 0 0 0 0 0 0 none none 0 0 0 0 w3 true (by decide))
    refine Lib.hid ?_
    go_wp2_with (go_at_call 28; refine C3.out.mono ?_; rintro e w4 ⟨rfl, hb4⟩; refine Hid.out ?_)
    have b4 := b3.trans (hb4.mono b3.size)
    clear C3 x0 x1 x2 x3 x4 x5 x6 x7 x8 x9 x10 x11 x12
    refine Lib.hid ?_
    go_wp2
    go_ret
    exact ⟨rfl, b4⟩
  | some r =>
    rw [hd] at CD
    obtain ⟨hr, rfl⟩ := decOf_some.1 hd
    have he := enc_right hr
    unfold Rep.enc at he
    have hlen : r.lt.length ≤ 16 ∧ r.ln.length ≤ 20 := by
      have := rep_good hr
      exact ⟨this.2.2.2.2.2.2.2.2.2.2.2.1, this.2.2.2.2.2.2.2.2.2.2.2.2.1⟩
    have htx : ∀ x ∈ r.ln, x.tx.size ≤ 9223372036854775807 := by
      have hd' : decOf r.bytes = some (drep (r.bytes, false)).1 := by rw [drep_full hr]; exact hd
      have e : (drep (r.bytes, false)).1 = r := by rw [drep_full hr]
      intro x hx
      have := drep_tx (r.bytes, false) x (by rw [e]; exact hx)
      omega
    simp only at CD
    unfold Rep.val at CD
    clear hd hr hl
    generalize r.bytes = b at *
    go_enter Tryz.func5, Tryz.ntmps5
    go_wp2_with (go_at_call 25; refine CK.out.mono ?_; rintro e w1 ⟨rfl, hb1⟩; refine Hid.out ?_)
    have C1 := Lib.hid (CD.out w1 hb1)
    clear CK CD
    refine Lib.hid ?_
    go_wp2_with (go_at_call 26; refine C1.out.mono ?_; rintro e w2 ⟨v, rfl, ⟨T, N, rfl, oA, oB, _⟩, hb2⟩; obtain ⟨ta, tc, rfl⟩ := W.own_slice oA; obtain ⟨na, nc, rfl⟩ := W.own_slice oB; refine Hid.out ?_)
    have b2 := hb1.trans (hb2.mono hb1.size)
    obtain ⟨W2, hW2⟩ : ∃ W, w2.alloc (.cells #[.int .i64 r.kind, .slice ta r.lt.length tc, .int .i64 r.hs, .int .i64 r.hf, .int .i64 r.hu, .int .i64 r.rs, .int .i64 r.rv, .int .i64 r.rb, .int .i64 r.nm, .slice na r.ln.length nc, .int .i64 r.cs, .int .i64 r.cf, .int .i64 r.cc] 39) = W := ⟨_, rfl⟩
    have g2 : Below w2.heap.size w2 W2 := by rw [← hW2]; exact below_alloc _ _
    have p2 : W2.heap[w2.heap.size]? = some (.cells #[.int .i64 r.kind, .slice ta r.lt.length tc, .int .i64 r.hs, .int .i64 r.hf, .int .i64 r.hu, .int .i64 r.rs, .int .i64 r.rv, .int .i64 r.rb, .int .i64 r.nm, .slice na r.ln.length nc, .int .i64 r.cs, .int .i64 r.cf, .int .i64 r.cc] 39 (0, 0)) := by rw [← hW2]; exact new_at _ _
    have bW2 := b2.trans (g2.mono b2.size)
    have C2 := Lib.hid (enc11 r.kind r.hs r.hf r.hu r.rs r.rv r.rb r.nm r.cs r.cf r.cc (.slice ta r.lt.length tc) (.slice na r.ln.length nc) r.lt r.ln W2 (by omega) (by omega) htx ((rowOfOwn oA).on g2) ((rowOfOwn oB).on g2) (HU.out W2 bW2) _ he)
    clear oA oB
    have x0 := cellsAt p2 0
    have x1 := cellsAt p2 1
    have x2 := cellsAt p2 2
    have x3 := cellsAt p2 3
    have x4 := cellsAt p2 4
    have x5 := cellsAt p2 5
    have x6 := cellsAt p2 6
    have x7 := cellsAt p2 7
    have x8 := cellsAt p2 8
    have x9 := cellsAt p2 9
    have x10 := cellsAt p2 10
    have x11 := cellsAt p2 11
    have x12 := cellsAt p2 12
    simp only [List.getElem?_toArray, List.getElem?_cons_zero, List.getElem?_cons_succ] at x0 x1 x2 x3 x4 x5 x6 x7 x8 x9 x10 x11 x12
    clear C1
    refine Lib.hid ?_
    go_wp2_with (go_at_call 27; refine C2.out.mono ?_; rintro e w3 ⟨rfl, hb3⟩; refine Hid.out ?_)
    have b3 := bW2.trans (hb3.mono bW2.size)
    have p3 := at_below p2 hb3
    clear C2 hW2 x0 x1 x2 x3 x4 x5 x6 x7 x8 x9 x10 x11 x12
    have x0 := cellsAt p3 0
    have x1 := cellsAt p3 1
    have x2 := cellsAt p3 2
    have x3 := cellsAt p3 3
    have x4 := cellsAt p3 4
    have x5 := cellsAt p3 5
    have x6 := cellsAt p3 6
    have x7 := cellsAt p3 7
    have x8 := cellsAt p3 8
    have x9 := cellsAt p3 9
    have x10 := cellsAt p3 10
    have x11 := cellsAt p3 11
    have x12 := cellsAt p3 12
    simp only [List.getElem?_toArray, List.getElem?_cons_zero, List.getElem?_cons_succ] at x0 x1 x2 x3 x4 x5 x6 x7 x8 x9 x10 x11 x12
    have C3 := Lib.hid (sameK0 r.kind r.hs r.hf r.hu r.rs r.rv r.rb r.nm r.cs r.cf r.cc ta na r.lt.length tc r.ln.length nc w3 _ rfl)
    obtain ⟨q, hq⟩ : ∃ q, decide (r.kind = 0 ∧ (r.hs = 0 ∧ r.hf = 0 ∧ r.hu = 0) ∧ (r.rs = 0 ∧ r.rv = 0 ∧ r.rb = 0) ∧ r.nm = 0 ∧ (r.cs = 0 ∧ r.cf = 0 ∧ r.cc = 0) ∧ r.lt.length = 0 ∧ r.ln.length = 0) = q := ⟨_, rfl⟩
    rw [hq] at C3
    clear hq
    refine Lib.hid ?_
    go_wp2_with (go_at_call 28; refine C3.out.mono ?_; rintro e w4 ⟨rfl, hb4⟩; refine Hid.out ?_)
    have b4 := b3.trans (hb4.mono b3.size)
    clear C3 x0 x1 x2 x3 x4 x5 x6 x7 x8 x9 x10 x11 x12
    refine Lib.hid ?_
    go_wp2
    go_ret
    exact ⟨rfl, b4⟩
end Go.Proofs.YteibjmlimcpaoaaGreatDoor.K
