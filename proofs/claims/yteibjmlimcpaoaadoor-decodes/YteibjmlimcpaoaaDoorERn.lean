/-
  What report.rightNames answers, for every list of names wherever it lies; nothing that lay in memory turns.
-/
import Derived.Test.YteibjmlimcpaoaaDoorERw
set_option linter.unusedVariables false
set_option linter.unusedSimpArgs false
namespace Go.Proofs.YteibjmlimcpaoaaDoor
open Go.RowKit Go.Sort

theorem new_row (w : World) (l : List Int) (g : Nat) (cs : Array Value) (hg : g = w.heap.size) (hcs : cs.toList = icells l) : RowIs (w.alloc (.cells cs 3)) (.slice (some ⟨g, 0, none⟩) l.length l.length) l.length (icells l) := by
  subst hg
  refine ⟨_, _, rfl, fun _ => ⟨_, 0, rfl, fun j u hj => ?_⟩⟩
  rw [Nat.zero_add, World.cell?_alloc_new, ← Array.getElem?_toList, hcs]
  exact hj
theorem withinN (most : Int) (l : List Int) (w : World) (g : Nat) (cs : Array Value) (n : Nat) (hg : g = w.heap.size) (hcs : cs.toList = icells l) (hn : n = l.length) (hm : n ≤ 16) (r : Bool) (hr : l.all (toB most) = r) :
    Calls Tryd.prog 79 #[.int .i64 most, .slice (some ⟨g, 0, none⟩) n n] (w.alloc (.cells cs 3)) fun e w' => e = .returned (.bool r) ∧ w' = w.alloc (.cells cs 3) := by
  subst hn
  exact within56 most l _ _ r (by omega) (new_row w l g cs hg hcs) hr

set_option maxRecDepth 100000 in
set_option maxHeartbeats 2000000 in
theorem names58_small (v : Value) (l : List Nm) (w : World) (hl : l.length ≤ 20) (htx : ∀ x ∈ l, x.tx.size ≤ 9223372036854775807) (hv : RowIs w v l.length (ncells l)) (hu : Utabs w) (r : Bool) (hr : l.all nmOk = r) :
    Calls Tryd.prog 81 #[v] w fun e w' => e = .returned (.bool r) ∧ Below w.heap.size w w' := by
  have hl' : ¬ (20 : Int) < (l.length : Int) := by omega
  have HR := Lib.hid hr
  have HV := Lib.hid hv
  have HU := Lib.hid hu
  clear hr hu
  obtain ⟨ao, cap, rfl, hcell⟩ := hv
  clear hcell
  go_enter Tryd.func81, Tryd.ntmps81
  go_wp2
  go_loopw [10] (fun is wr => ∃ (k : Nat), is = .int .i64 k ∧ k ≤ l.length ∧ Below w.heap.size w wr ∧ Hid ((l.drop k).all nmOk = r)) (fun is _ => l.length - (intOf is).toNat)
  case atStart => exact ⟨0, rfl, Nat.zero_le _, Below.refl _ _, HR⟩
  case round =>
    obtain ⟨k, rfl, hk, hbw, H⟩ := hrel
    clear HR
    by_cases hlt : k < l.length
    · obtain ⟨_, _, hao, hcell⟩ := HV.out.on hbw
      cases hao
      obtain ⟨g, o, rfl, hcl⟩ := hcell (by omega)
      obtain ⟨⟨pl, en, la, id, st, ms, tx⟩, hx⟩ : ∃ x, l[k]? = some x := ⟨_, List.getElem?_eq_getElem hlt⟩
      obtain ⟨t0, t1, t2, t3, t4, t5, t6⟩ := ncells_at l k _ hx
      have c0 := hcl _ _ t0
      have c1 := hcl _ _ t1
      have c2 := hcl _ _ t2
      have c3 := hcl _ _ t3
      have c4 := hcl _ _ t4
      have c5 := hcl _ _ t5
      have c6 := hcl _ _ t6
      simp only at c0 c1 c2 c3 c4 c5 c6
      rw [← Nat.add_assoc] at c1 c2 c3 c4 c5 c6
      have htx1 := htx _ (List.mem_of_getElem? hx)
      simp only at htx1
      have hdr : l.drop k = ⟨pl, en, la, id, st, ms, tx⟩ :: l.drop (k + 1) := by
        rw [List.drop_eq_getElem_cons hlt]
        congr 1
        exact Option.some.inj ((List.getElem?_eq_getElem hlt).symm.trans hx)
      have h1 := H.out
      rw [hdr, List.all_cons] at h1
      clear hcell hcl t0 t1 t2 t3 t4 t5 t6 hdr H hx
      have hnm : nmOk ⟨pl, en, la, id, st, ms, tx⟩ = ([pl, en, la, id].all (toB 65535) && [st].all (toB 8) && [ms].all (toB 7) && properB tx.data.toList) := by
        simp [nmOk, Bool.and_assoc]
      rw [hnm] at h1
      clear hnm
      have b1 : Below w.heap.size w (wr.alloc (.cells #[.int .i64 pl, .int .i64 en, .int .i64 la, .int .i64 id, .int .i64 st, .int .i64 ms, .string tx] 79)) := hbw.alloc hbw.size _
      have b2 : Below w.heap.size w ((wr.alloc (.cells #[.int .i64 pl, .int .i64 en, .int .i64 la, .int .i64 id, .int .i64 st, .int .i64 ms, .string tx] 79)).alloc (.cells #[.int .i64 pl, .int .i64 en, .int .i64 la, .int .i64 id] 3)) := b1.alloc b1.size _
      have b3 : Below w.heap.size w (((wr.alloc (.cells #[.int .i64 pl, .int .i64 en, .int .i64 la, .int .i64 id, .int .i64 st, .int .i64 ms, .string tx] 79)).alloc (.cells #[.int .i64 pl, .int .i64 en, .int .i64 la, .int .i64 id] 3)).alloc (.cells #[.int .i64 st] 3)) := b2.alloc b2.size _
      have b4 : Below w.heap.size w ((((wr.alloc (.cells #[.int .i64 pl, .int .i64 en, .int .i64 la, .int .i64 id, .int .i64 st, .int .i64 ms, .string tx] 79)).alloc (.cells #[.int .i64 pl, .int .i64 en, .int .i64 la, .int .i64 id] 3)).alloc (.cells #[.int .i64 st] 3)).alloc (.cells #[.int .i64 ms] 3)) := b3.alloc b3.size _
      have W1 := Lib.hid (withinN 65535 [pl, en, la, id] (wr.alloc (.cells #[.int .i64 pl, .int .i64 en, .int .i64 la, .int .i64 id, .int .i64 st, .int .i64 ms, .string tx] 79)) (wr.heap.size + 1) #[.int .i64 pl, .int .i64 en, .int .i64 la, .int .i64 id] 4 (by simp) rfl rfl (by decide) _ rfl)
      have W2 := Lib.hid (withinN 8 [st] ((wr.alloc (.cells #[.int .i64 pl, .int .i64 en, .int .i64 la, .int .i64 id, .int .i64 st, .int .i64 ms, .string tx] 79)).alloc (.cells #[.int .i64 pl, .int .i64 en, .int .i64 la, .int .i64 id] 3)) (wr.heap.size + 2) #[.int .i64 st] 1 (by simp) rfl rfl (by decide) _ rfl)
      have W3 := Lib.hid (withinN 7 [ms] (((wr.alloc (.cells #[.int .i64 pl, .int .i64 en, .int .i64 la, .int .i64 id, .int .i64 st, .int .i64 ms, .string tx] 79)).alloc (.cells #[.int .i64 pl, .int .i64 en, .int .i64 la, .int .i64 id] 3)).alloc (.cells #[.int .i64 st] 3)) (wr.heap.size + 3) #[.int .i64 ms] 1 (by simp) rfl rfl (by decide) _ rfl)
      have W4 := Lib.hid (text74 tx _ htx1 (HU.out.below b4))
      have H1 := Lib.hid h1
      clear h1
      generalize [pl, en, la, id].all (toB 65535) = r1 at *
      generalize [st].all (toB 8) = r2 at *
      generalize [ms].all (toB 7) = r3 at *
      generalize properB tx.data.toList = r4 at *
      cases r1
      · have h2 := H1.out
        simp only [Bool.false_and] at h2
        have H2 := Lib.hid h2
        clear h2 H1
        go_wp2_with (go_at_call 79; refine W1.out.mono ?_; rintro e w4 ⟨rfl, rfl⟩)
        go_ret
        exact ⟨ret_bool H2.out, b2⟩
      cases r2
      · have h2 := H1.out
        simp only [Bool.false_and, Bool.and_false] at h2
        have H2 := Lib.hid h2
        clear h2 H1
        go_wp2_with (go_at_call 79; refine W1.out.mono ?_; rintro e w4 ⟨rfl, rfl⟩; refine Hid.out ?_)
        refine Lib.hid ?_
        go_wp2_with (go_at_call 79; refine W2.out.mono ?_; rintro e w4 ⟨rfl, rfl⟩)
        go_ret
        exact ⟨ret_bool H2.out, b3⟩
      cases r3
      · have h2 := H1.out
        simp only [Bool.false_and, Bool.and_false] at h2
        have H2 := Lib.hid h2
        clear h2 H1
        go_wp2_with (go_at_call 79; refine W1.out.mono ?_; rintro e w4 ⟨rfl, rfl⟩; refine Hid.out ?_)
        refine Lib.hid ?_
        go_wp2_with (go_at_call 79; refine W2.out.mono ?_; rintro e w4 ⟨rfl, rfl⟩; refine Hid.out ?_)
        refine Lib.hid ?_
        go_wp2_with (go_at_call 79; refine W3.out.mono ?_; rintro e w4 ⟨rfl, rfl⟩)
        go_ret
        exact ⟨ret_bool H2.out, b4⟩
      cases r4
      · have h2 := H1.out
        simp only [Bool.false_and, Bool.and_false] at h2
        have H2 := Lib.hid h2
        clear h2 H1
        go_wp2_with (go_at_call 79; refine W1.out.mono ?_; rintro e w4 ⟨rfl, rfl⟩; refine Hid.out ?_)
        refine Lib.hid ?_
        go_wp2_with (go_at_call 79; refine W2.out.mono ?_; rintro e w4 ⟨rfl, rfl⟩; refine Hid.out ?_)
        refine Lib.hid ?_
        go_wp2_with (go_at_call 79; refine W3.out.mono ?_; rintro e w4 ⟨rfl, rfl⟩; refine Hid.out ?_)
        refine Lib.hid ?_
        go_wp2_with (go_at_call 115; refine W4.out.mono ?_; rintro e w5 ⟨rfl, b5⟩)
        go_ret
        exact ⟨ret_bool H2.out, b4.trans (b5.mono b4.size)⟩
      · have h2 := H1.out
        simp only [Bool.true_and, Bool.and_true] at h2
        have H2 := Lib.hid h2
        clear h2 H1
        go_wp2_with (go_at_call 79; refine W1.out.mono ?_; rintro e w4 ⟨rfl, rfl⟩; refine Hid.out ?_)
        refine Lib.hid ?_
        go_wp2_with (go_at_call 79; refine W2.out.mono ?_; rintro e w4 ⟨rfl, rfl⟩; refine Hid.out ?_)
        refine Lib.hid ?_
        go_wp2_with (go_at_call 79; refine W3.out.mono ?_; rintro e w4 ⟨rfl, rfl⟩; refine Hid.out ?_)
        refine Lib.hid ?_
        go_wp2_with (go_at_call 115; refine W4.out.mono ?_; rintro e w5 ⟨rfl, b5⟩)
        have b6 := b4.trans (b5.mono b4.size)
        refine ⟨⟨k + 1, by go_num, by omega, b6, H2⟩, by simp [intOf]; omega⟩
    · have h2 := H.out
      rw [List.drop_eq_nil_of_le (by omega)] at h2
      have H2 := Lib.hid h2
      clear h2 H
      have hge : ¬ ((k : Int) < (l.length : Int)) := by omega
      go_wp2
      go_ret
      exact ⟨ret_bool H2.out, hbw⟩

set_option maxRecDepth 100000 in
theorem tables57 (v : Value) (l : List Tab) (w : World) (hm : l.length ≤ 9223372036854775807) (hv : RowIs w v l.length (tcells l)) :
    Calls Tryd.prog 80 #[v] w fun e w' => e = .returned (.bool (decide (l.length ≤ 16) && l.all tabOk)) ∧ Below w.heap.size w w' := by
  by_cases h : l.length ≤ 16
  · rw [decide_eq_true h, Bool.true_and]
    exact tables57_small v l w h hv _ rfl
  · rw [decide_eq_false h, Bool.false_and]
    obtain ⟨ao, cap, rfl, _⟩ := hv
    have hb' : (16 : Int) < (l.length : Int) := by omega
    go_enter Tryd.func80, Tryd.ntmps80
    go_wp2
    go_ret
    exact ⟨rfl, Below.refl _ _⟩
set_option maxRecDepth 100000 in
theorem names58 (v : Value) (l : List Nm) (w : World) (hm : l.length ≤ 9223372036854775807) (htx : ∀ x ∈ l, x.tx.size ≤ 9223372036854775807) (hv : RowIs w v l.length (ncells l)) (hu : Utabs w) :
    Calls Tryd.prog 81 #[v] w fun e w' => e = .returned (.bool (decide (l.length ≤ 20) && l.all nmOk)) ∧ Below w.heap.size w w' := by
  by_cases h : l.length ≤ 20
  · rw [decide_eq_true h, Bool.true_and]
    exact names58_small v l w h htx hv hu _ rfl
  · rw [decide_eq_false h, Bool.false_and]
    obtain ⟨ao, cap, rfl, _⟩ := hv
    have hb' : (20 : Int) < (l.length : Int) := by omega
    go_enter Tryd.func81, Tryd.ntmps81
    go_wp2
    go_ret
    exact ⟨rfl, Below.refl _ _⟩
end Go.Proofs.YteibjmlimcpaoaaDoor
