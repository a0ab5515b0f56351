/-
  The document's own side: what visorref.windows answers: the tables of a file, in new memory.
-/
import Derived.Test.YteibjmlimcpaoaaGreatDoorRe
import Derived.Test.YteibjmlimcpaoaaGreatDoorRb
import Derived.Test.YteibjmlimcpaoaaGreatDoorWd
import Derived.Test.YteibjmlimcpaoaaGreatDoorWe
import Derived.Deep.RegionHeld3
import Derived.Deep.CutBlock
set_option linter.unusedVariables false
set_option linter.unusedSimpArgs false
namespace Go.Proofs.YteibjmlimcpaoaaGreatDoor.V
open Go.RowKit Go.Sort
open Go.Proofs.YteibjmlimcpaoaaGreatDoor.W (at_below at_alloc new_at below_alloc cellsAt strV PolIs pv RowIs own_form own_slice less_leL)

def wcells : List Wd → List Value
  | [] => []
  | x :: r => .string ⟨x.tag.toArray⟩ :: .int .i64 (x.st : Int) :: .int .i64 (x.size : Int) :: .int .i64 (x.fr : Int) :: .int .i64 (x.to : Int) :: wcells r
theorem wcells_at : ∀ (l : List Wd) (k : Nat) (x : Wd), l[k]? = some x → (wcells l)[k * 5]? = some (.string ⟨x.tag.toArray⟩) ∧ (wcells l)[k * 5 + 1]? = some (.int .i64 (x.st : Int)) ∧ (wcells l)[k * 5 + 2]? = some (.int .i64 (x.size : Int)) ∧ (wcells l)[k * 5 + 3]? = some (.int .i64 (x.fr : Int)) ∧ (wcells l)[k * 5 + 4]? = some (.int .i64 (x.to : Int))
  | [], k, t, h => by simp at h
  | x :: l, 0, t, h => by
    simp at h
    subst h
    exact ⟨rfl, rfl, rfl, rfl, rfl⟩
  | x :: l, k + 1, t, h => by
    have := wcells_at l k t (by simpa using h)
    rw [show (k + 1) * 5 = k * 5 + 5 by omega]
    exact this
theorem wcells_append (a b : List Wd) : wcells (a ++ b) = wcells a ++ wcells b := by
  induction a with
  | nil => rfl
  | cons x a ih => simp [wcells, ih]
theorem infoWd : (Tryz.prog.info? 93).map (fun i => (i.zero, i.size, i.bytes)) = some (some (.agg #[.string ⟨#[]⟩, .int .i64 0, .int .i64 0, .int .i64 0, .int .i64 0]), 5, 48) := by kernel_rfl
theorem kind_rng (D : List UInt8) : (kindL D).1 ≤ 3 ∧ (kindL D).2 ≤ 16 ∧ ((kindL D).2 = 0 ∨ 12 + 16 * (kindL D).2 ≤ D.length) := by
  have := kindOf_le (D.take 4)
  unfold kindL
  split
  · exact ⟨by simp, by simp, .inl rfl⟩
  · split
    · exact ⟨by simp, by simp, .inl rfl⟩
    · split
      · exact ⟨by simp, by simp, .inl rfl⟩
      · simp only
        omega
theorem rowOwnW {w : World} {B e k : Nat} {v : Value} {n : Nat} {xs : List Value} (h : w.ownsRow B e k v n xs) : RowIs w v n xs := by
  obtain ⟨h1, ⟨rfl, rfl⟩ | ⟨g, cap, cur, rfl, hb, hg, hn, hm, hs, ht⟩⟩ := h
  · exact ⟨none, 0, rfl, fun h => by omega⟩
  · refine ⟨_, _, rfl, fun _ => ⟨g, 0, rfl, fun j u hj => ?_⟩⟩
    rw [Nat.zero_add, cellsAt hg, ← Array.getElem?_toList]
    rw [← ht, List.getElem?_take] at hj
    split at hj
    · exact hj
    · simp at hj
theorem num4V' (l : List UInt8) (hl : l.length ≤ 9223372036854775807) (w : World) (a : Nat) (A : Int) (x : Nat) (hA : A = (a : Int)) (ha : a + 4 ≤ l.length) (hx : num4 l a = x) :
    Calls Tryz.prog 59 #[.string ⟨l.toArray⟩, .int .i64 A, .int .i64 4] w fun e w' => e = .returned (.int .i64 (x : Int)) ∧ w' = w := num4V l hl w a A x hA ha (by rw [hx])

set_option maxRecDepth 100000 in
set_option maxHeartbeats 4000000 in
theorem windowsV (P : Pol) (T I : Value) (D : List UInt8) (w : World) (hp : PolIs P T I w) (h8 : P.tags.length ≤ 8) (hD : D.length ≤ 2000) (n kd : Nat) (hn : kindL D = (kd, n)) :
    Calls Tryz.prog 35 #[pv T I P.text, strV D] w fun e w' => ∃ v, e = .returned v ∧ w'.ownsRow w.heap.size 93 5 v n (wcells (winsR P D n n)) ∧ Below w.heap.size w w' := by
  obtain ⟨i0, hi, hz0, hz1, hz2⟩ := info_parts infoWd
  have hrng := kind_rng D
  have K := Lib.hid (fun (w : World) => kindV D w (by omega))
  rw [hn] at hrng K
  simp only at hrng K
  obtain ⟨_, hn16, hnD⟩ := hrng
  obtain ⟨ta, tc, hTe, _⟩ := id hp.tags
  obtain ⟨ia, ic, hIe, _⟩ := id hp.ids
  subst hTe hIe
  obtain ⟨W, hW⟩ : ∃ W, w.alloc (.cells #[.slice ta P.tags.length tc, .slice ia P.ids.length ic, .int .i64 P.text] 25) = W := ⟨_, rfl⟩
  have hbW : Below w.heap.size w W := by rw [← hW]; exact below_alloc _ _
  have n0 : W.heap[w.heap.size]? = some (.cells #[.slice ta P.tags.length tc, .slice ia P.ids.length ic, .int .i64 P.text] 25 (0, 0)) := by rw [← hW]; exact new_at _ _
  have HW := Lib.hid (And.intro n0 (And.intro hbW (hp.on hbW)))
  unfold pv strV
  clear n0 hbW hp hn
  go_enter Tryz.func35, Tryz.ntmps35
  go_wp2_with (go_at_call 34; refine (K.out _).mono ?_; rintro e w1 ⟨rfl, hw1⟩; have hw1 := hw1.symm; subst hw1)
  go_loopw [5, 8] (fun os is wr => ∃ (k : Nat), is = .int .i64 (k : Int) ∧ k ≤ n ∧ Below W.heap.size W wr ∧ wr.ownsRow W.heap.size 93 5 os k (wcells (winsR P D n k))) (fun _ is _ => n - (intOf is).toNat)
  case atStart => exact ⟨0, rfl, Nat.zero_le _, Below.refl _ _, World.ownsRow_nil _ _ _ _⟩
  case round =>
    obtain ⟨k, rfl, hk, hbw, hown⟩ := hrel
    by_cases hk1 : k < n
    · obtain ⟨Wo, hWo⟩ : ∃ W, W = wr := ⟨_, rfl⟩
      subst hWo
      have hD2 : 12 + 16 * n ≤ D.length := by omega
      obtain ⟨fr, hfr⟩ : ∃ x : Nat, num4 D (12 + 16 * k + 8) = x := ⟨_, rfl⟩
      obtain ⟨sz, hsz⟩ : ∃ x : Nat, num4 D (12 + 16 * k + 12) = x := ⟨_, rfl⟩
      have bfr : fr < 4294967296 := hfr ▸ num4_lt _ _
      have bsz : sz < 4294967296 := hsz ▸ num4_lt _ _
      have A8 := Lib.hid (fun (w : World) (A : Int) (hA : A = ((12 + 16 * k + 8 : Nat) : Int)) => num4V' D (by omega) w (12 + 16 * k + 8) A fr hA (by omega) hfr)
      have A12 := Lib.hid (fun (w : World) (A : Int) (hA : A = ((12 + 16 * k + 12 : Nat) : Int)) => num4V' D (by omega) w (12 + 16 * k + 12) A sz hA (by omega) hsz)
      have hcut : (ByteArray.mk D.toArray).extract (12 + 16 * k) (12 + 16 * k + 4) = ⟨((D.drop (12 + 16 * k)).take 4).toArray⟩ := by
        rw [cut_is]
        congr 3
        omega
      obtain ⟨tag, htag⟩ : ∃ x, (D.drop (12 + 16 * k)).take 4 = x := ⟨_, rfl⟩
      rw [htag] at hcut
      obtain ⟨Tg, hTg⟩ : ∃ x, ByteArray.mk tag.toArray = x := ⟨_, rfl⟩
      rw [hTg] at hcut
      have hnew : winsR P D n (k + 1) = winsR P D n k ++ [⟨tag, statW P D.length (12 + 16 * n) (winsR P D n k) tag fr (fr + sz), if D.length < fr + sz ∨ fr < 12 + 16 * n then 0 else sz, fr, fr + sz⟩] := by
        rw [winsR, newWd, hfr, hsz, htag]
      have hlen := winsR_length P D n k
      have hok := winsR_ok P D n k
      obtain ⟨L2, hL2e⟩ : ∃ L2, winsR P D n (k + 1) = L2 := ⟨_, rfl⟩
      have HL2 := Lib.hid hL2e
      rw [hL2e] at hnew
      clear hL2e
      generalize winsR P D n k = L at *
      have HL := Lib.hid (And.intro hlen (And.intro hok (And.intro hown (And.intro htag hTg))))
      obtain ⟨oa, oc, rfl⟩ := own_slice hown
      have HN := Lib.hid hnew
      clear hnew hfr hsz htag hTg hlen hok hown
      have ik : (k : Int) < (n : Int) := by omega
      have hszD : (⟨D.toArray⟩ : ByteArray).size = D.length := by show Array.size _ = _; simp
      have s1 : 12 + 16 * (k : Int) + 4 ≤ (D.length : Int) := by omega
      have s2 : 12 + 16 * k + 4 ≤ D.length := by omega
      have k16 : k < 16 := by omega
      have z4 : IntKind.i64.wrap (12 + 16 * (k : Int) + 4) = 12 + 16 * (k : Int) + 4 := by rw [IntKind.wrap_i64]; omega
      have z8 : IntKind.i64.wrap (12 + 16 * (k : Int) + 8) = 12 + 16 * (k : Int) + 8 := by rw [IntKind.wrap_i64]; omega
      have z12 : IntKind.i64.wrap (12 + 16 * (k : Int) + 12) = 12 + 16 * (k : Int) + 12 := by rw [IntKind.wrap_i64]; omega
      have hsl : ∀ W : World, (Instr.slice 9 (.string ⟨D.toArray⟩) (some (.int .i64 (12 + 16 * (k : Int)))) (some (.int .i64 (12 + 16 * (k : Int) + 4))) none).run Tryz.prog W = .ok (.string Tg) W := by
        intro W
        rw [run_slice_string W 9 _ .i64 .i64 _ _ Tryz.underlying9 (by omega) (by omega) (by rw [hszD]; omega)]
        rw [← hcut]
        congr 3
        all_goals omega
      clear hcut
      go_upto_region 7 with fail
      go_cut [10] (fun s10 wx => ∃ xb, s10 = .pointer (some ⟨xb, 0, none⟩) ∧ Below Wo.heap.size Wo wx ∧ Wo.heap.size ≤ xb ∧ wx.heap[xb]? = some (.cells #[.string Tg, .int .i64 0, .int .i64 (sz : Int), .int .i64 (fr : Int), .int .i64 0] 93 (0, 0)))
      case first =>
        go_region_held3 (fun w' => True) (go_keep) (first | (go_at_call 59; (first | refine (A8.out _ _ (by omega)).mono ?_ | refine (A12.out _ _ (by omega)).mono ?_); rintro e w1 ⟨rfl, hw1⟩; have hw1 := hw1.symm; subst hw1))
        all_goals (
          go_wp2_with fail
          go_meet
          exact ⟨_, rfl, (below_alloc _ _).drew, Nat.le_refl _, new_at _ _⟩)
      case rest =>
        clear A8 A12 z4 z8 z12 hsl s1 s2
        obtain ⟨xb, rfl, hbx, hxb, hx⟩ := hcut
        have x2 := cellsAt hx 2
        have x3 := cellsAt hx 3
        have x4 := cellsAt hx 4
        have f4 := frozenAt hx 4
        simp only [List.getElem?_toArray, List.getElem?_cons_zero, List.getElem?_cons_succ] at x2 x3 x4
        obtain ⟨Wb, hWb⟩ : ∃ W, wc.setCell ⟨xb, 4, none⟩ (.int .i64 ((fr : Int) + (sz : Int))) = W := ⟨_, rfl⟩
        have nb : Wb.heap[xb]? = some (.cells #[.string Tg, .int .i64 0, .int .i64 (sz : Int), .int .i64 (fr : Int), .int .i64 ((fr : Int) + (sz : Int))] 93 (0, 0)) := by rw [← hWb]; exact Go.Proofs.YteibjmlimcpaoaaGreatDoor.W.setCell_row hx _
        have bb : Below Wo.heap.size Wo Wb := by rw [← hWb]; exact hbx.setCell (p := ⟨xb, 4, none⟩) hxb _
        have HX := Lib.hid (And.intro nb (And.intro bb (hbw.trans (bb.mono hbw.size))))
        clear hx hbx nb bb
        go_wp2
        clear x2 x3 x4 f4 hWb
        go_loopw [11, 12] (fun ss ks wx => ∃ (j : Nat) (q : Bool), ks = .int .i64 (j : Int) ∧ j ≤ k ∧ ss = .bool q ∧ Below Wb.heap.size Wb wx ∧ Hid (q = (L.take j).any fun x => sharesW x fr (fr + sz))) (fun _ ks _ => k - (intOf ks).toNat)
        case atStart => exact ⟨0, false, rfl, Nat.zero_le _, rfl, Below.refl _ _, Lib.hid rfl⟩
        case round =>
          obtain ⟨j, q, rfl, hj, rfl, hbi, HQ⟩ := hrel
          have e1 := at_below HX.out.1 hbi
          have y0 := cellsAt e1 0
          have y1 := cellsAt e1 1
          have y2 := cellsAt e1 2
          have y3 := cellsAt e1 3
          have y4 := cellsAt e1 4
          simp only [List.getElem?_toArray, List.getElem?_cons_zero, List.getElem?_cons_succ] at y0 y1 y2 y3 y4
          by_cases hj1 : j < k
          · obtain ⟨hlen, hok, hown, _, _⟩ := HL.out
            obtain ⟨x, hxj⟩ : ∃ x, L[j]? = some x := ⟨_, List.getElem?_eq_getElem (by omega)⟩
            obtain ⟨g, cap', cs, hve, hbg, hg⟩ := own_form hown (by omega)
            cases hve
            obtain ⟨_, _, hao, hrc⟩ := ((rowOwnW hown).on HX.out.2.1).on hbi
            cases hao
            obtain ⟨_, _, hgo, hcell⟩ := hrc (by omega)
            cases hgo
            obtain ⟨t0, t1, t2, t3, t4⟩ := wcells_at L j x hxj
            have c1 := hcell _ _ t1
            have c3 := hcell _ _ t3
            have c4 := hcell _ _ t4
            rw [Nat.zero_add] at c1 c3 c4
            have hok1 := hok x (List.mem_of_getElem? hxj)
            have hst4 := hok1.st
            have hlt := hok1.lt
            have hlt2 := hok1.lt2
            have hany : ((L.take (j + 1)).any fun x => sharesW x fr (fr + sz)) = (((L.take j).any fun x => sharesW x fr (fr + sz)) || sharesW x fr (fr + sz)) := by
              rw [List.take_add_one, hxj]
              simp
            rw [← HQ.out] at hany
            have HA := Lib.hid hany
            obtain ⟨xtag, xst, xsize, xfr, xto⟩ := x
            simp only at c1 c3 c4 hst4 hlt hlt2
            clear hany hok1 hok hlen hown hg hrc hcell t0 t1 t2 t3 t4 hxj hbg
            have ij : (j : Int) < (k : Int) := by omega
            have ij0 : (0 : Int) ≤ (j : Int) := by omega
            obtain ⟨ow, how⟩ : ∃ ow : Bool, ow = decide (xst = 0 ∨ xst = 4) := ⟨_, rfl⟩
            go_upto_region 13 with fail
            go_cut [13] (fun s13 wy => s13 = .bool ow ∧ wy = wr)
            case first =>
              by_cases h0 : xst = 0
              · obtain rfl : ow = true := by rw [how]; exact decide_eq_true (.inl h0)
                have d0 : (xst : Int) = 0 := by omega
                clear how
                go_wp2_with fail
                go_meet
                exact ⟨rfl, rfl⟩
              · have d0 : ¬ (xst : Int) = 0 := by omega
                have d0' : ((xst : Int) == 0) = false := beq_eq_false_iff_ne.2 d0
                by_cases h4 : xst = 4
                · obtain rfl : ow = true := by rw [how]; exact decide_eq_true (.inr h4)
                  have d1 : (xst : Int) = 4 := by omega
                  clear how
                  go_wp2_with fail
                  go_meet
                  exact ⟨rfl, rfl⟩
                · obtain rfl : ow = false := by rw [how]; exact decide_eq_false (by omega)
                  have d1 : ¬ (xst : Int) = 4 := by omega
                  have d1' : ((xst : Int) == 4) = false := beq_eq_false_iff_ne.2 d1
                  clear how
                  go_wp2_with fail
                  go_meet
                  exact ⟨rfl, rfl⟩
            case rest =>
              obtain ⟨rfl, hwc⟩ := hcut
              subst hwc
              cases ow with
              | false =>
                have how' : ¬ (xst = 0 ∨ xst = 4) := of_decide_eq_false how.symm
                clear how
                as_aux_lemma =>
                  have HA2 : Hid (q = (L.take (j + 1)).any fun x => sharesW x fr (fr + sz)) := by
                    show _ = _
                    rw [HA.out, show sharesW ⟨xtag, xst, xsize, xfr, xto⟩ fr (fr + sz) = false from decide_eq_false (by rintro ⟨h1, h2, h3, h4, h5⟩; simp only at h1 h2 h3 h4 h5; omega), Bool.or_false]
                  clear HA how'
                  go_wp2_with fail
                  go_quiet (fail)
                  go_wp2
                  exact ⟨⟨j + 1, q, by go_num, by omega, rfl, below_draws hbi nq, HA2⟩, by simp [intOf]; omega⟩
              | true =>
                have how' : xst = 0 ∨ xst = 4 := of_decide_eq_true how.symm
                clear how
                by_cases g0 : xfr < fr + sz
                rotate_left
                · as_aux_lemma =>
                    have HA2 : Hid (q = (L.take (j + 1)).any fun x => sharesW x fr (fr + sz)) := by
                      show _ = _
                      rw [HA.out, show sharesW ⟨xtag, xst, xsize, xfr, xto⟩ fr (fr + sz) = false from decide_eq_false (by rintro ⟨h1, h2, h3, h4, h5⟩; simp only at h1 h2 h3 h4 h5; omega), Bool.or_false]
                    clear HA how'
                    have d0 : decide ((xfr : Int) < (fr : Int) + (sz : Int)) = false := decide_eq_false (by omega)
                    go_wp2_with fail
                    go_quiet (fail)
                    go_wp2
                    exact ⟨⟨j + 1, q, by go_num, by omega, rfl, below_draws hbi nq, HA2⟩, by simp [intOf]; omega⟩
                by_cases g1 : fr < xto
                rotate_left
                · as_aux_lemma =>
                    have HA2 : Hid (q = (L.take (j + 1)).any fun x => sharesW x fr (fr + sz)) := by
                      show _ = _
                      rw [HA.out, show sharesW ⟨xtag, xst, xsize, xfr, xto⟩ fr (fr + sz) = false from decide_eq_false (by rintro ⟨h1, h2, h3, h4, h5⟩; simp only at h1 h2 h3 h4 h5; omega), Bool.or_false]
                    clear HA how'
                    have d0 : decide ((xfr : Int) < (fr : Int) + (sz : Int)) = true := decide_eq_true (by omega)
                    have d1 : decide ((fr : Int) < (xto : Int)) = false := decide_eq_false (by omega)
                    go_wp2_with fail
                    go_quiet (fail)
                    go_wp2
                    exact ⟨⟨j + 1, q, by go_num, by omega, rfl, below_draws hbi nq, HA2⟩, by simp [intOf]; omega⟩
                by_cases g2 : xfr < xto
                rotate_left
                · as_aux_lemma =>
                    have HA2 : Hid (q = (L.take (j + 1)).any fun x => sharesW x fr (fr + sz)) := by
                      show _ = _
                      rw [HA.out, show sharesW ⟨xtag, xst, xsize, xfr, xto⟩ fr (fr + sz) = false from decide_eq_false (by rintro ⟨h1, h2, h3, h4, h5⟩; simp only at h1 h2 h3 h4 h5; omega), Bool.or_false]
                    clear HA how'
                    have d0 : decide ((xfr : Int) < (fr : Int) + (sz : Int)) = true := decide_eq_true (by omega)
                    have d1 : decide ((fr : Int) < (xto : Int)) = true := decide_eq_true (by omega)
                    have d2 : decide ((xfr : Int) < (xto : Int)) = false := decide_eq_false (by omega)
                    go_wp2_with fail
                    go_quiet (fail)
                    go_wp2
                    exact ⟨⟨j + 1, q, by go_num, by omega, rfl, below_draws hbi nq, HA2⟩, by simp [intOf]; omega⟩
                by_cases g3 : fr < fr + sz
                rotate_left
                · as_aux_lemma =>
                    have HA2 : Hid (q = (L.take (j + 1)).any fun x => sharesW x fr (fr + sz)) := by
                      show _ = _
                      rw [HA.out, show sharesW ⟨xtag, xst, xsize, xfr, xto⟩ fr (fr + sz) = false from decide_eq_false (by rintro ⟨h1, h2, h3, h4, h5⟩; simp only at h1 h2 h3 h4 h5; omega), Bool.or_false]
                    clear HA how'
                    have d0 : decide ((xfr : Int) < (fr : Int) + (sz : Int)) = true := decide_eq_true (by omega)
                    have d1 : decide ((fr : Int) < (xto : Int)) = true := decide_eq_true (by omega)
                    have d2 : decide ((xfr : Int) < (xto : Int)) = true := decide_eq_true (by omega)
                    have d3 : decide ((fr : Int) < (fr : Int) + (sz : Int)) = false := decide_eq_false (by omega)
                    go_wp2_with fail
                    go_quiet (fail)
                    go_wp2
                    exact ⟨⟨j + 1, q, by go_num, by omega, rfl, below_draws hbi nq, HA2⟩, by simp [intOf]; omega⟩
                as_aux_lemma =>
                  have HA2 : Hid (true = (L.take (j + 1)).any fun x => sharesW x fr (fr + sz)) := by
                    show _ = _
                    rw [HA.out, show sharesW ⟨xtag, xst, xsize, xfr, xto⟩ fr (fr + sz) = true from decide_eq_true (by simp only; omega), Bool.or_true]
                  clear HA how'
                  have d0 : decide ((xfr : Int) < (fr : Int) + (sz : Int)) = true := decide_eq_true (by omega)
                  have d1 : decide ((fr : Int) < (xto : Int)) = true := decide_eq_true (by omega)
                  have d2 : decide ((xfr : Int) < (xto : Int)) = true := decide_eq_true (by omega)
                  have d3 : decide ((fr : Int) < (fr : Int) + (sz : Int)) = true := decide_eq_true (by omega)
                  go_wp2_with fail
                  go_quiet (fail)
                  go_wp2
                  exact ⟨⟨j + 1, true, by go_num, by omega, rfl, below_draws hbi nq, HA2⟩, by simp [intOf]; omega⟩
          · obtain rfl : j = k := by omega
            obtain ⟨hlen, hok, hown, htag, hTg⟩ := HL.out
            have hqs : (L.any fun x => sharesW x fr (fr + sz)) = q := by rw [HQ.out, List.take_of_length_le (by omega)]
            have bWi : Below W.heap.size W wr := HX.out.2.2.trans (hbi.mono HX.out.2.2.size)
            have e0 := at_below HW.out.1 bWi
            have p0 := cellsAt e0 0
            have p1 := cellsAt e0 1
            have p2 := cellsAt e0 2
            simp only [List.getElem?_toArray, List.getElem?_cons_zero, List.getElem?_cons_succ] at p0 p1 p2
            obtain ⟨hd, hhd⟩ : ∃ hd, P.tags.contains tag = hd := ⟨_, rfl⟩
            have TG := Lib.hid (taggedV P (.slice ta P.tags.length tc) (.slice ia P.ids.length ic) tag wr (HW.out.2.2.on bWi) h8 hd hhd)
            unfold pv strV at TG
            rw [hTg] at TG
            obtain ⟨U, hU⟩ : ∃ U, lastWd L tag = U := ⟨_, rfl⟩
            have hst : statW P D.length (12 + 16 * n) L tag fr (fr + sz) = if U = true then 1 else if D.length < fr + sz ∨ fr < 12 + 16 * n then 2 else if q = true then 3 else if hd = true then 4 else 0 := by
              unfold statW
              rw [hU, hqs, hhd]
            have HU := Lib.hid (And.intro hU hst)
            have HE := Lib.hid (And.intro e0 e1)
            clear hU hst hhd hqs htag hTg hok hown hlen e0 e1 HQ
            have ik2 : ¬ ((j : Int) < (j : Int)) := by omega
            go_wp2_with (go_at_call 60; refine TG.out.mono ?_; rintro e w5 ⟨rfl, hb5⟩; refine Hid.out ?_)
            clear y0 y1 y2 y3 y4 p0 p1 p2 TG
            have e1 := at_below HE.out.2 hb5
            have y0 := cellsAt e1 0
            have y1 := cellsAt e1 1
            have y2 := cellsAt e1 2
            have y3 := cellsAt e1 3
            have y4 := cellsAt e1 4
            simp only [List.getElem?_toArray, List.getElem?_cons_zero, List.getElem?_cons_succ] at y0 y1 y2 y3 y4
            have HE5 := Lib.hid e1
            clear e1
            have bz5 : Below Wb.heap.size Wb w5 := hbi.trans (hb5.mono hbi.size)
            clear hbi hb5 bWi HE
            refine Lib.hid ?_
            obtain ⟨hU, hst⟩ := HU.out
            obtain ⟨st, hst2⟩ : ∃ st, statW P D.length (12 + 16 * n) L tag fr (fr + sz) = st := ⟨_, rfl⟩
            rw [hst2] at hst
            have HST := Lib.hid hst
            have HN2 : Hid (L2 = L ++ [⟨tag, st, if D.length < fr + sz ∨ fr < 12 + 16 * n then 0 else sz, fr, fr + sz⟩]) := by show _ = _; rw [← hst2]; exact HN.out
            have HU := Lib.hid hU
            clear hU hst hst2 HN
            go_upto_block 4 with fail
            go_cut [] (fun wx => Below Wo.heap.size Wo wx ∧ wx.heap[xb]? = some (.cells #[.string Tg, .int .i64 (st : Int), .int .i64 (sz : Int), .int .i64 (fr : Int), .int .i64 ((fr : Int) + (sz : Int))] 93 (0, 0)))
            case first =>
              as_aux_lemma =>
                go_upto_region 17 with fail
                go_cut [117] (fun s117 wy => s117 = .bool U ∧ Below w5.heap.size w5 wy)
                case first =>
                  by_cases hk0 : j = 0
                  · obtain ⟨hlen, _⟩ := HL.out
                    have hL0 : L = [] := List.eq_nil_of_length_eq_zero (by omega)
                    obtain rfl : U = false := by rw [← HU.out, hL0]; rfl
                    have d0 : decide ((0 : Int) < (j : Int)) = false := decide_eq_false (by omega)
                    clear hL0 hlen
                    go_quiet (fail)
                    go_wp2_with fail
                    go_meet
                    exact ⟨rfl, below_draws (Below.refl _ _) nq⟩
                  · obtain ⟨m, hm⟩ : ∃ m, j = m + 1 := ⟨j - 1, by omega⟩
                    obtain ⟨hlen, hok, hown, htag, hTg⟩ := HL.out
                    obtain ⟨x, hxm⟩ : ∃ x, L[m]? = some x := ⟨_, List.getElem?_eq_getElem (by omega)⟩
                    have hul : U = leL tag x.tag := by
                      rw [← HU.out]
                      unfold lastWd
                      rw [List.getLast?_eq_getElem?, hlen, hm, Nat.add_sub_cancel, hxm]
                    obtain ⟨g, cap', cs, hve, hbg, hg⟩ := own_form hown (by omega)
                    cases hve
                    obtain ⟨_, _, hao, hrc⟩ := ((rowOwnW hown).on HX.out.2.1).on bz5
                    cases hao
                    obtain ⟨_, _, hgo, hcell⟩ := hrc (by omega)
                    cases hgo
                    obtain ⟨t0, t1, t2, t3, t4⟩ := wcells_at L m x hxm
                    have c0 := hcell _ _ t0
                    rw [Nat.zero_add] at c0
                    have hle := less_leL tag x.tag
                    have q1 : Tg.toList = tag := by rw [← hTg, ByteArray.toList_eq]
                    have q2 : (ByteArray.mk x.tag.toArray).toList = x.tag := by rw [ByteArray.toList_eq]
                    rw [← hul, ← q1] at hle
                    rw [← q2] at hle
                    generalize ByteArray.mk x.tag.toArray = X at *
                    have d0 : decide ((0 : Int) < (j : Int)) = true := decide_eq_true (by omega)
                    have d0' : decide (0 < j) = true := decide_eq_true (by omega)
                    have z1 : (j : Int) - 1 = (m : Int) := by omega
                    have z2 : IntKind.i64.wrap ((j : Int) - 1) = (m : Int) := by rw [IntKind.wrap_i64]; omega
                    have z3 : (0 : Int) ≤ (m : Int) := by omega
                    have z4 : (m : Int) < (j : Int) := by omega
                    clear hul q1 q2 t0 t1 t2 t3 t4 hcell hrc hg hxm hok hown hlen htag hTg hm hk0
                    cases hb1 : Op.bytesLess Tg.toList X.toList with
                    | true =>
                      rw [hb1, Bool.true_or] at hle
                      subst hle
                      go_quiet (fail)
                      go_wp2_with fail
                      go_meet
                      exact ⟨rfl, below_draws (Below.refl _ _) nq⟩
                    | false =>
                      rw [hb1, Bool.false_or] at hle
                      cases hb2 : (Tg.toList == X.toList) with
                      | true =>
                        rw [hb2] at hle
                        subst hle
                        go_quiet (fail)
                        go_wp2_with fail
                        go_meet
                        exact ⟨rfl, below_draws (Below.refl _ _) nq⟩
                      | false =>
                        rw [hb2] at hle
                        subst hle
                        go_quiet (fail)
                        go_wp2_with fail
                        go_meet
                        exact ⟨rfl, below_draws (Below.refl _ _) nq⟩
                case rest =>
              as_aux_lemma =>
                    obtain ⟨rfl, hb6⟩ := hcut
                    have e1 := at_below HE5.out hb6
                    have bz6 : Below Wb.heap.size Wb wc := bz5.trans (hb6.mono bz5.size)
                    clear y0 y1 y2 y3 y4 HE5 bz5 hb6
                    have y0 := cellsAt e1 0
                    have y1 := cellsAt e1 1
                    have y2 := cellsAt e1 2
                    have y3 := cellsAt e1 3
                    have y4 := cellsAt e1 4
                    have f1 := frozenAt e1 1
                    simp only [List.getElem?_toArray, List.getElem?_cons_zero, List.getElem?_cons_succ] at y0 y1 y2 y3 y4
                    have bo := HX.out.2.1.trans (bz6.mono HX.out.2.1.size)
                    have HB := Lib.hid (And.intro e1 bo)
                    clear e1 bo bz6
                    cases U with
                    | true =>
                      have hst := HST.out
                      rw [if_pos rfl] at hst
                      subst hst
                      clear HST HN2
                      go_wp2_with fail
                      go_meet
                      exact ⟨HB.out.2.setCell (p := ⟨xb, 1, none⟩) hxb _, Go.Proofs.YteibjmlimcpaoaaGreatDoor.W.setCell_row (i := 1) HB.out.1 _⟩
                    | false =>
                      by_cases h1 : D.length < fr + sz
                      · have hst := HST.out
                        rw [if_neg (by simp), if_pos (.inl h1)] at hst
                        subst hst
                        have g1 : (D.length : Int) < (fr : Int) + (sz : Int) := by omega
                        clear HST HN2
                        go_wp2_with fail
                        go_meet
                        exact ⟨HB.out.2.setCell (p := ⟨xb, 1, none⟩) hxb _, Go.Proofs.YteibjmlimcpaoaaGreatDoor.W.setCell_row (i := 1) HB.out.1 _⟩
                      by_cases h2 : fr < 12 + 16 * n
                      · have hst := HST.out
                        rw [if_neg (by simp), if_pos (.inr h2)] at hst
                        subst hst
                        have g1 : ¬ (D.length : Int) < (fr : Int) + (sz : Int) := by omega
                        have g2 : (fr : Int) < 12 + 16 * (n : Int) := by omega
                        clear HST HN2
                        go_wp2_with fail
                        go_meet
                        exact ⟨HB.out.2.setCell (p := ⟨xb, 1, none⟩) hxb _, Go.Proofs.YteibjmlimcpaoaaGreatDoor.W.setCell_row (i := 1) HB.out.1 _⟩
                      have hO : ¬ (D.length < fr + sz ∨ fr < 12 + 16 * n) := by omega
                      cases q with
                      | true =>
                        have hst := HST.out
                        rw [if_neg (by simp), if_neg hO, if_pos rfl] at hst
                        subst hst
                        have g1 : ¬ (D.length : Int) < (fr : Int) + (sz : Int) := by omega
                        have g2 : ¬ (fr : Int) < 12 + 16 * (n : Int) := by omega
                        clear HST HN2
                        go_wp2_with fail
                        go_meet
                        exact ⟨HB.out.2.setCell (p := ⟨xb, 1, none⟩) hxb _, Go.Proofs.YteibjmlimcpaoaaGreatDoor.W.setCell_row (i := 1) HB.out.1 _⟩
                      | false =>
                        cases hd with
                        | true =>
                          have hst := HST.out
                          rw [if_neg (by simp), if_neg hO, if_neg (by simp), if_pos rfl] at hst
                          subst hst
                          have g1 : ¬ (D.length : Int) < (fr : Int) + (sz : Int) := by omega
                          have g2 : ¬ (fr : Int) < 12 + 16 * (n : Int) := by omega
                          clear HST HN2
                          go_wp2_with fail
                          go_meet
                          exact ⟨HB.out.2.setCell (p := ⟨xb, 1, none⟩) hxb _, Go.Proofs.YteibjmlimcpaoaaGreatDoor.W.setCell_row (i := 1) HB.out.1 _⟩
                        | false =>
                          have hst := HST.out
                          rw [if_neg (by simp), if_neg hO, if_neg (by simp), if_neg (by simp)] at hst
                          subst hst
                          have g1 : ¬ (D.length : Int) < (fr : Int) + (sz : Int) := by omega
                          have g2 : ¬ (fr : Int) < 12 + 16 * (n : Int) := by omega
                          clear HST HN2
                          go_wp2_with fail
                          go_meet
                          exact ⟨HB.out.2, HB.out.1⟩
            case rest =>
              clear y0 y1 y2 y3 y4 HE5 bz5 HST HU
              obtain ⟨bo, e1⟩ := hcut
              have y0 := cellsAt e1 0
              have y1 := cellsAt e1 1
              have y2 := cellsAt e1 2
              have y3 := cellsAt e1 3
              have y4 := cellsAt e1 4
              have f2 := frozenAt e1 2
              simp only [List.getElem?_toArray, List.getElem?_cons_zero, List.getElem?_cons_succ] at y0 y1 y2 y3 y4
              have HB := Lib.hid (And.intro e1 bo)
              clear e1 bo
              obtain ⟨z, hz⟩ : ∃ z, (if D.length < fr + sz ∨ fr < 12 + 16 * n then 0 else sz) = z := ⟨_, rfl⟩
              have HN3 : Hid (L2 = L ++ [⟨tag, st, z, fr, fr + sz⟩]) := by show _ = _; rw [← hz]; exact HN2.out
              have HZ := Lib.hid hz
              clear hz HN2
              obtain ⟨O, hO⟩ : ∃ O : Bool, decide (D.length < fr + sz ∨ fr < 12 + 16 * n) = O := ⟨_, rfl⟩
              have HOO := Lib.hid hO
              clear hO
              obtain ⟨Wp, hWp⟩ : ∃ W, W = wc := ⟨_, rfl⟩
              subst hWp
              go_upto_region 25 with fail
              go_cut [171] (fun s171 wx => s171 = .bool O ∧ wx = Wp)
              case first =>
                by_cases h1 : D.length < fr + sz
                · obtain rfl : O = true := by rw [← HOO.out]; exact decide_eq_true (.inl h1)
                  have g1 : (D.length : Int) < (fr : Int) + (sz : Int) := by omega
                  go_wp2_with fail
                  go_meet
                  exact ⟨rfl, rfl⟩
                by_cases h2 : fr < 12 + 16 * n
                · obtain rfl : O = true := by rw [← HOO.out]; exact decide_eq_true (.inr h2)
                  have g1 : ¬ (D.length : Int) < (fr : Int) + (sz : Int) := by omega
                  have g2 : (fr : Int) < 12 + 16 * (n : Int) := by omega
                  go_wp2_with fail
                  go_meet
                  exact ⟨rfl, rfl⟩
                obtain rfl : O = false := by rw [← HOO.out]; exact decide_eq_false (by omega)
                have g1 : ¬ (D.length : Int) < (fr : Int) + (sz : Int) := by omega
                have g2 : ¬ (fr : Int) < 12 + 16 * (n : Int) := by omega
                go_wp2_with fail
                go_meet
                exact ⟨rfl, rfl⟩
              case rest =>
                obtain ⟨rfl, hwc⟩ := hcut
                subst hwc
                go_upto_if 171 with fail
                go_cut [] (fun wx => Below Wo.heap.size Wo wx ∧ wx.heap[xb]? = some (.cells #[.string Tg, .int .i64 (st : Int), .int .i64 (z : Int), .int .i64 (fr : Int), .int .i64 ((fr : Int) + (sz : Int))] 93 (0, 0)))
                case first =>
                  cases O with
                  | true =>
                    have hz2 := HZ.out
                    rw [if_pos (of_decide_eq_true HOO.out)] at hz2
                    subst hz2
                    go_wp2_with fail
                    go_meet
                    exact ⟨HB.out.2.setCell (p := ⟨xb, 2, none⟩) hxb _, Go.Proofs.YteibjmlimcpaoaaGreatDoor.W.setCell_row (i := 2) HB.out.1 _⟩
                  | false =>
                    have hz2 := HZ.out
                    rw [if_neg (of_decide_eq_false HOO.out)] at hz2
                    subst hz2
                    go_wp2_with fail
                    go_meet
                    exact ⟨HB.out.2, HB.out.1⟩
                case rest =>
                  clear y0 y1 y2 y3 y4 f2 HB HZ HOO
                  obtain ⟨bz, e1⟩ := hcut
                  have y0 := cellsAt e1 0
                  have y1 := cellsAt e1 1
                  have y2 := cellsAt e1 2
                  have y3 := cellsAt e1 3
                  have y4 := cellsAt e1 4
                  simp only [List.getElem?_toArray, List.getElem?_cons_zero, List.getElem?_cons_succ] at y0 y1 y2 y3 y4
                  clear e1
                  have hc2 : wcells L2 = wcells L ++ [.string Tg, .int .i64 (st : Int), .int .i64 (z : Int), .int .i64 (fr : Int), .int .i64 ((fr : Int) + (sz : Int))] := by
                    rw [HN3.out, wcells_append]
                    simp [wcells, HL.out.2.2.2.2]
                  have HC2 := Lib.hid hc2
                  clear hc2 HN3
                  have own2 := Go.Proofs.YteibjmlimcpaoaaGreatDoor.W.own_any HL.out.2.2.1 bz
                  have szz := hbw.size
                  have szy := bz.size
                  go_wp2_with (at_builtin; refine wpList_append_own _ rfl _ _ 90 rfl W.heap.size 93 i0 (.agg #[.string ⟨#[]⟩, .int .i64 0, .int .i64 0, .int .i64 0, .int .i64 0]) 5 48 Tryz.underlying90 hi hz0 hz1 hz2 rfl (by decide) _ _ _ rfl (own2.alloc _) ⟨wc.heap.size, 0, none⟩ 1 1 [.string Tg, .int .i64 (st : Int), .int .i64 (z : Int), .int .i64 (fr : Int), .int .i64 ((fr : Int) + (sz : Int))] rfl rfl (newCells _ _ _) (fun x hx => by simp at hx; rcases hx with rfl | rfl | rfl | rfl | rfl <;> rfl) (by unfold maxLen; omega) (by omega) (by simp; omega) ?_; intro v' w3 hown' hgrow3 hnil3; refine Hid.out ?_)
                  have own3 : w3.ownsRow W.heap.size 93 5 v' (j + 1) (wcells L2) := by
                    rw [HC2.out]
                    exact hown'
                  have b3 : Below W.heap.size W w3 := ((hbw.trans (bz.mono hbw.size)).alloc (by omega) _).grown hgrow3 (by simp; omega) (fun j hj => (own2.lt j hj).1)
                  clear hown' hgrow3 hnil3 own2 bz
                  refine Lib.hid ?_
                  go_wp2
                  exact ⟨⟨j + 1, by go_num, by omega, b3, by rw [HL2.out]; exact own3⟩, by simp [intOf]; omega⟩
    · have hkn : n ≤ k := by omega
      have ik : ¬ ((k : Int) < (n : Int)) := by omega
      obtain ⟨oa, oc, rfl⟩ := own_slice hown
      obtain rfl : k = n := by omega
      have HO := Lib.hid hown
      clear hown
      go_wp2
      go_ret
      exact ⟨_, rfl, Go.Proofs.YteibjmlimcpaoaaGreatDoor.W.own_lower HO.out HW.out.2.1.size, HW.out.2.1.trans (hbw.mono HW.out.2.1.size)⟩
end Go.Proofs.YteibjmlimcpaoaaGreatDoor.V
