/-
  The document's own side: what visorref.table answers: the bytes of the table of a tag, where it lies, its status.
-/
import Derived.Test.YteibjmlimcpaoaaGreatDoorRvN
set_option linter.unusedVariables false
set_option linter.unusedSimpArgs false
namespace Go.Proofs.YteibjmlimcpaoaaGreatDoor.V
open Go.RowKit Go.Sort
open Go.Proofs.YteibjmlimcpaoaaGreatDoor.W (at_below at_alloc new_at below_alloc cellsAt strV PolIs pv RowIs own_form own_slice str_eq str_ne mk_inj)

theorem tup3 {a b : ByteArray} {x y x' y' : Int} (h1 : a = b) (h2 : x = x') (h3 : y = y') : Ending.returned (.tuple #[.string a, .int .i64 x, .int .i64 y]) = .returned (.tuple #[.string b, .int .i64 x', .int .i64 y']) := by rw [h1, h2, h3]

set_option maxRecDepth 100000 in
set_option maxHeartbeats 4000000 in
theorem tableV (P : Pol) (T I : Value) (D : List UInt8) (w : World) (hp : PolIs P T I w) (h8 : P.tags.length ≤ 8) (hD : D.length ≤ 2000) (tag bs : List UInt8) (fr st : Nat) (ht : tbl P D tag = (bs, fr, st)) :
    Calls Tryz.prog 36 #[pv T I P.text, strV D, strV tag] w fun e w' => e = .returned (.tuple #[strV bs, .int .i64 (fr : Int), .int .i64 (st : Int)]) ∧ Below w.heap.size w w' := by
  obtain ⟨kd, n, hkn⟩ : ∃ kd n, kindL D = (kd, n) := ⟨_, _, rfl⟩
  have hn16 := (kind_rng D).2.1
  unfold tbl at ht
  rw [hkn] at ht hn16
  simp only at ht hn16
  obtain ⟨ta, tc, hTe, _⟩ := id hp.tags
  obtain ⟨ia, ic, hIe, _⟩ := id hp.ids
  subst hTe hIe
  obtain ⟨W, hW⟩ : ∃ W, w.alloc (.cells #[.slice ta P.tags.length tc, .slice ia P.ids.length ic, .int .i64 P.text] 25) = W := ⟨_, rfl⟩
  have hbW : Below w.heap.size w W := by rw [← hW]; exact below_alloc _ _
  have n0 : W.heap[w.heap.size]? = some (.cells #[.slice ta P.tags.length tc, .slice ia P.ids.length ic, .int .i64 P.text] 25 (0, 0)) := by rw [← hW]; exact new_at _ _
  have WN := Lib.hid (windowsV P (.slice ta P.tags.length tc) (.slice ia P.ids.length ic) D W (hp.on hbW) h8 hD n kd hkn)
  have hlen := winsR_length P D n n
  have hok := winsR_ok P D n n
  generalize winsR P D n n = L at *
  have HT := Lib.hid (And.intro ht (And.intro hlen hok))
  have y0 := cellsAt n0 0
  have y1 := cellsAt n0 1
  have y2 := cellsAt n0 2
  simp only [List.getElem?_toArray, List.getElem?_cons_zero, List.getElem?_cons_succ] at y0 y1 y2
  unfold pv strV at WN ⊢
  obtain ⟨S, hS⟩ : ∃ S, ByteArray.mk tag.toArray = S := ⟨_, rfl⟩
  obtain ⟨Z, hZ⟩ : ∃ Z, ByteArray.mk bs.toArray = Z := ⟨_, rfl⟩
  rw [hS, hZ]
  have HS := Lib.hid (And.intro hS hZ)
  clear n0 hp ht hlen hok hkn hS hZ
  have hszD : (⟨D.toArray⟩ : ByteArray).size = D.length := by show Array.size _ = _; simp
  go_enter Tryz.func36, Tryz.ntmps36
  go_wp2_with (go_at_call 35; refine WN.out.mono ?_; rintro e w1 ⟨v, rfl, hown, hb1⟩; obtain ⟨oa, oc, rfl⟩ := own_slice hown; refine Hid.out ?_)
  have b1 : Below w.heap.size w w1 := hbW.trans (hb1.mono hbW.size)
  have HO := Lib.hid hown
  clear hown hb1 WN y0 y1 y2
  refine Lib.hid ?_
  go_wp2
  go_loopw [10] (fun is wr => ∃ (k : Nat), is = .int .i64 (k : Int) ∧ k ≤ n ∧ Below w1.heap.size w1 wr ∧ Hid (tableR D tag (L.drop k) = (bs, fr, st))) (fun is _ => n - (intOf is).toNat)
  case atStart => exact ⟨0, rfl, Nat.zero_le _, Below.refl _ _, HT.out.1⟩
  case round =>
    obtain ⟨k, rfl, hk, hbw, H⟩ := hrel
    have bw : Below w.heap.size w wr := b1.trans (hbw.mono b1.size)
    by_cases hk1 : k < n
    · obtain ⟨_, hlen, hok⟩ := HT.out
      obtain ⟨x, hx⟩ : ∃ x, L[k]? = some x := ⟨_, List.getElem?_eq_getElem (by omega)⟩
      have hdr : L.drop k = x :: L.drop (k + 1) := by
        rw [List.drop_eq_getElem_cons (by omega)]
        congr 1
        exact Option.some.inj ((List.getElem?_eq_getElem (by omega)).symm.trans hx)
      have h1 := H.out
      rw [hdr, tableR] at h1
      obtain ⟨g, cap', cs, hve, hbg, hg⟩ := own_form HO.out (by omega)
      cases hve
      obtain ⟨_, _, hao, hrc⟩ := (rowOwnW HO.out).on hbw
      cases hao
      obtain ⟨_, _, hgo, hcell⟩ := hrc (by omega)
      cases hgo
      obtain ⟨t0, t1, t2, t3, t4⟩ := wcells_at L k x hx
      have c0 := hcell _ _ t0
      have c1 := hcell _ _ t1
      have c3 := hcell _ _ t3
      have c4 := hcell _ _ t4
      rw [Nat.zero_add] at c0 c1 c3 c4
      have hok1 := hok x (List.mem_of_getElem? hx)
      have hhere := hok1.here
      have hle := hok1.le
      obtain ⟨xtag, xst, xsize, xfr, xto⟩ := x
      simp only at c0 c1 c3 c4 h1 hhere hle
      clear hok1 hok hlen hg hrc hcell t0 t1 t2 t3 t4 hx hbg hdr H
      have ik : (k : Int) < (n : Int) := by omega
      have ik0 : (0 : Int) ≤ (k : Int) := by omega
      by_cases ht : ByteArray.mk xtag.toArray = S
      · have e1 : xtag = tag := mk_inj (ht.trans HS.out.1.symm)
        rw [if_pos e1] at h1
        have q' := str_eq ht
        generalize ByteArray.mk xtag.toArray = X at *
        clear ht e1
        by_cases h0 : xst ≠ 0
        · rw [if_pos h0] at h1
          have H1 := Lib.hid h1
          have d0 : ¬ (xst : Int) = 0 := by omega
          clear h1 hhere hle
          go_wp2_with fail
          go_quiet (fail)
          go_wp2
          have h2 := H1.out
          simp only [Prod.mk.injEq] at h2
          go_ret3
          exact ⟨tup3 (by rw [← HS.out.2, ← h2.1]) (by omega) (by omega), below_draws bw nq⟩
        · rw [if_neg h0] at h1
          have h3 := hhere (by omega)
          have hcut : (ByteArray.mk D.toArray).extract xfr xto = Z := by
            rw [cut_is, ← HS.out.2]
            simp only [Prod.mk.injEq] at h1
            rw [h1.1]
          have hsl : ∀ W : World, (Instr.slice 9 (.string ⟨D.toArray⟩) (some (.int .i64 (xfr : Int))) (some (.int .i64 (xto : Int))) none).run Tryz.prog W = .ok (.string Z) W := by
            intro W
            rw [run_slice_string W 9 _ .i64 .i64 _ _ Tryz.underlying9 (by omega) (by omega) (by rw [hszD]; omega)]
            rw [← hcut]
            congr 3
          have H1 := Lib.hid h1
          have d0 : (xst : Int) = 0 := by omega
          clear h1 hhere hle h3 hcut
          go_wp2_with fail
          go_quiet (fail)
          go_wp2
          have h2 := H1.out
          simp only [Prod.mk.injEq] at h2
          go_ret3
          exact ⟨tup3 rfl (by omega) (by omega), below_draws bw nq⟩
      · have e1 : ¬ xtag = tag := fun e => ht (by rw [e]; exact HS.out.1)
        rw [if_neg e1] at h1
        have H1 := Lib.hid h1
        have q' := str_ne ht
        generalize ByteArray.mk xtag.toArray = X at *
        clear h1 ht e1 hhere hle
        go_wp2
        exact ⟨⟨k + 1, by go_num, by omega, hbw, H1⟩, by simp [intOf]; omega⟩
    · obtain ⟨_, hlen, hok⟩ := HT.out
      have h1 := H.out
      rw [List.drop_eq_nil_of_le (by omega), tableR] at h1
      have H1 := Lib.hid h1
      have ik : ¬ ((k : Int) < (n : Int)) := by omega
      clear h1 H hlen hok
      go_wp2
      have h2 := H1.out
      simp only [Prod.mk.injEq] at h2
      go_ret3
      exact ⟨tup3 (by rw [← HS.out.2, ← h2.1]) (by omega) (by omega), bw⟩
end Go.Proofs.YteibjmlimcpaoaaGreatDoor.V
