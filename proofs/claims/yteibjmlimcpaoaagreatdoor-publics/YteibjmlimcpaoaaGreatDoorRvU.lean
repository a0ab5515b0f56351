/-
  The document's own side: what visorref.Public answers: which bytes of a file are public, in new memory.
-/
import Derived.Test.YteibjmlimcpaoaaGreatDoorRvT
import Derived.Test.YteibjmlimcpaoaaGreatDoorRvO
import Derived.Test.YteibjmlimcpaoaaGreatDoorWg
import Derived.Laws.MakeOwn
import Derived.Deep.CutRange
import Derived.Deep.RegionHeld3
set_option linter.unusedVariables false
set_option linter.unusedSimpArgs false
namespace Go.Proofs.YteibjmlimcpaoaaGreatDoor.V
open Go.RowKit Go.Sort
open Go.Proofs.YteibjmlimcpaoaaGreatDoor.W (at_below at_alloc new_at below_alloc strV PolIs pv RowIs BoolsAt bools_set grown_at grown_below grown_trans grown_set infoBool made_bools mark_len mark_nil mark_step own_slice own_form)

theorem bools_cell {g k : Nat} {L : List Bool} {w : World} (h : BoolsAt g L w) (hk : k < L.length) : ∃ x, w.cell? ⟨g, k, none⟩ = some (.bool x) := ⟨L[k], by
  have := cellsAt h k
  rw [this]
  simp [List.getElem?_eq_getElem hk]⟩
theorem marksD_len : ∀ (l : List Wd) (L : List Bool), (marksD l L).length = L.length
  | [], L => rfl
  | x :: l, L => by
    show (marksD l (if x.st = 0 then markL ⟨x.fr, x.to - x.fr⟩ true L else L)).length = _
    rw [marksD_len l]
    split
    · exact mark_len _ _ _
    · rfl
theorem marksD_take (l : List Wd) (k : Nat) (x : Wd) (h : l[k]? = some x) (L : List Bool) : marksD (l.take (k + 1)) L = if x.st = 0 then markL ⟨x.fr, x.to - x.fr⟩ true (marksD (l.take k) L) else marksD (l.take k) L := by
  rw [List.take_add_one, h]
  simp [marksD, List.foldl_append]
theorem docP_is (P : Pol) (D : List UInt8) (kd n : Nat) (hkn : kindL D = (kd, n)) (b3 : List UInt8) (f3 s3 : Nat) (ht3 : tbl P D tagName = (b3, f3, s3)) (L1 L2 L3 : List Bool) (h1 : markL ⟨0, min D.length 12⟩ true (List.replicate D.length false) = L1) (h2 : markL ⟨0, 12 + 16 * n⟩ true L1 = L2) (h3 : marksD (winsR P D n n) L2 = L3) :
    docP P D = if ¬ (kd = 1 ∨ kd = 2) then L1 else if s3 = 0 ∧ countL b3 6 12 = 0 then hideK P b3 (num2 b3 2) f3 (b3.length - (6 + 12 * num2 b3 2)) L3 else L3 := by
  unfold docP
  rw [hkn, ht3]
  simp only
  rw [h1, h2, h3]

theorem count_ok {l : List UInt8} (h : countL l 6 12 = 0) : 6 ≤ l.length ∧ 6 + 12 * num2 l 2 ≤ l.length := by
  unfold countL at h
  split at h
  · omega
  · split at h
    · omega
    · split at h
      · omega
      · split at h
        · omega
        · omega

set_option maxRecDepth 100000 in
set_option maxHeartbeats 2000000 in
theorem publicRno (P : Pol) (T I : Value) (D : List UInt8) (w : World) (hp : PolIs P T I w) (hD : D.length ≤ 9223372036854775807) (er : Int) (her : (if P.ok = false then 2 else if 2000 < D.length then 3 else (0 : Int)) = er) (h0 : ¬ er = 0) :
    Calls Tryz.prog 20 #[pv T I P.text, strV D] w fun e w' => e = .returned (.tuple #[.slice none 0 0, .int .i64 er]) ∧ Below w.heap.size w w' := by
  obtain ⟨ta, tc, hTe, _⟩ := id hp.tags
  obtain ⟨ia, ic, hIe, _⟩ := id hp.ids
  subst hTe hIe
  obtain ⟨W, hW⟩ : ∃ W, w.alloc (.cells #[.slice ta P.tags.length tc, .slice ia P.ids.length ic, .int .i64 P.text] 25) = W := ⟨_, rfl⟩
  have hbW : Below w.heap.size w W := by rw [← hW]; exact below_alloc _ _
  have n0 : W.heap[w.heap.size]? = some (.cells #[.slice ta P.tags.length tc, .slice ia P.ids.length ic, .int .i64 P.text] 25 (0, 0)) := by rw [← hW]; exact new_at _ _
  have RF := Lib.hid (refusesV P (.slice ta P.tags.length tc) (.slice ia P.ids.length ic) D W (by omega) (hp.on hbW))
  rw [her] at RF
  have y0 := cellsAt n0 0
  have y1 := cellsAt n0 1
  have y2 := cellsAt n0 2
  simp only [List.getElem?_toArray, List.getElem?_cons_zero, List.getElem?_cons_succ] at y0 y1 y2
  unfold pv strV at RF ⊢
  clear n0 hp her
  go_enter Tryz.func20, Tryz.ntmps20
  go_wp2_with (go_at_call 33; refine RF.out.mono ?_; rintro e w1 ⟨rfl, hb1⟩; refine Hid.out ?_)
  have bw1 := hbW.trans (hb1.mono hbW.size)
  clear y0 y1 y2 hW RF hb1
  refine Lib.hid ?_
  go_wp2
  exact bodyPost_ret (v := .tuple #[.slice none 0 0, .int .i64 er]) (by simp [results, Tryz.results20, go_sem]) rfl ⟨rfl, bw1⟩

set_option maxRecDepth 100000 in
set_option maxHeartbeats 8000000 in
theorem publicR (P : Pol) (T I : Value) (D : List UInt8) (w : World) (hp : PolIs P T I w) (hok : P.ok = true) (hD : D.length ≤ 2000) (L : List Bool) (hL : docP P D = L) :
    Calls Tryz.prog 20 #[pv T I P.text, strV D] w fun e w' => ∃ g, e = .returned (.tuple #[.slice (some ⟨g, 0, none⟩) D.length D.length, .int .i64 0]) ∧ w.heap.size ≤ g ∧ BoolsAt g L w' ∧ Below w.heap.size w w' := by
  obtain ⟨i0, hi, hz0, hz1, hz2⟩ := info_parts infoBool
  have h8 : P.tags.length ≤ 8 := ((ok_iff P).1 hok).1
  have h8i : P.ids.length ≤ 8 := ((ok_iff P).1 hok).2.1
  obtain ⟨ta, tc, hTe, _⟩ := id hp.tags
  obtain ⟨ia, ic, hIe, _⟩ := id hp.ids
  subst hTe hIe
  obtain ⟨kd, n, hkn⟩ : ∃ kd n, kindL D = (kd, n) := ⟨_, _, rfl⟩
  have hkr := kind_rng D
  have hdir := (dir_is P D).2.2.1
  rw [hkn] at hkr hdir
  simp only at hkr hdir
  obtain ⟨b3, f3, s3, ht3⟩ : ∃ b f s, tbl P D tagName = (b, f, s) := ⟨_, _, _, rfl⟩
  have hb3 : f3 + b3.length ≤ D.length := by
    rw [tbl_is] at ht3
    have hin := table_in P D tagName
    split at ht3
    · cases ht3
      simp
    · cases ht3
      rw [winL_length D _ hin]
      exact hin
  obtain ⟨L1, hL1⟩ : ∃ l, markL ⟨0, min D.length 12⟩ true (List.replicate D.length false) = l := ⟨_, rfl⟩
  obtain ⟨L2, hL2⟩ : ∃ l, markL ⟨0, 12 + 16 * n⟩ true L1 = l := ⟨_, rfl⟩
  obtain ⟨L3, hL3⟩ : ∃ l, marksD (winsR P D n n) L2 = l := ⟨_, rfl⟩
  have hdoc := docP_is P D kd n hkn b3 f3 s3 ht3 L1 L2 L3 hL1 hL2 hL3
  rw [hL] at hdoc
  have len1 : L1.length = D.length := by rw [← hL1, mark_len, List.length_replicate]
  have len2 : L2.length = D.length := by rw [← hL2, mark_len, len1]
  have len3 : L3.length = D.length := by rw [← hL3, marksD_len, len2]
  have T3 := Lib.hid (fun (wx : World) (h : PolIs P (.slice ta P.tags.length tc) (.slice ia P.ids.length ic) wx) => tableV P (.slice ta P.tags.length tc) (.slice ia P.ids.length ic) D wx h h8 hD tagName b3 f3 s3 ht3)
  unfold pv strV tagName at T3
  have K := Lib.hid (fun (w : World) => kindV D w (by omega))
  rw [hkn] at K
  simp only at K
  have WN := Lib.hid (fun (wx : World) (h : PolIs P (.slice ta P.tags.length tc) (.slice ia P.ids.length ic) wx) => windowsV P (.slice ta P.tags.length tc) (.slice ia P.ids.length ic) D wx h h8 hD n kd hkn)
  have HM := Lib.hid (And.intro hL1 (And.intro hL2 (And.intro hL3 (And.intro (winsR_ok P D n n) (And.intro (winsR_length P D n n) (And.intro hdoc hdir))))))
  have HLn := Lib.hid (And.intro len1 (And.intro len2 len3))
  generalize winsR P D n n = WL at *
  obtain ⟨W, hW⟩ : ∃ W, w.alloc (.cells #[.slice ta P.tags.length tc, .slice ia P.ids.length ic, .int .i64 P.text] 25) = W := ⟨_, rfl⟩
  have hbW : Below w.heap.size w W := by rw [← hW]; exact below_alloc _ _
  have n0 : W.heap[w.heap.size]? = some (.cells #[.slice ta P.tags.length tc, .slice ia P.ids.length ic, .int .i64 P.text] 25 (0, 0)) := by rw [← hW]; exact new_at _ _
  have RF := Lib.hid (refusesV P (.slice ta P.tags.length tc) (.slice ia P.ids.length ic) D W (by omega) (hp.on hbW))
  rw [if_neg (by rw [hok]; simp), if_neg (by omega)] at RF
  have y0 := cellsAt n0 0
  have y1 := cellsAt n0 1
  have y2 := cellsAt n0 2
  simp only [List.getElem?_toArray, List.getElem?_cons_zero, List.getElem?_cons_succ] at y0 y1 y2
  have HP := Lib.hid (And.intro n0 hp)
  unfold pv strV at RF WN ⊢
  clear n0 hp hL hL1 hL2 hL3 hdoc ht3 hkn hok len1 len2 len3 hdir
  obtain ⟨N, hN⟩ : ∃ N, D.length = N := ⟨_, rfl⟩
  rw [hN] at hD hkr hb3 HM HLn ⊢
  go_enter Tryz.func20, Tryz.ntmps20
  go_wp2_with (go_at_call 33; refine RF.out.mono ?_; rintro e w1 ⟨rfl, hb1⟩; refine Hid.out ?_)
  have bw1 := hbW.trans (hb1.mono hbW.size)
  have m1 := at_below HP.out.1 hb1
  have mk := run_make (P := Tryz.prog) w1 60 4 i0 (.bool false) Tryz.underlying60 hi hz0 .i64 .i64 (N : Int) (N : Int) (by omega) (Int.le_refl _) (by rw [hz2]; omega) (by omega)
  rw [hz1, Int.toNat_natCast, made_bools] at mk
  obtain ⟨W3, hW3⟩ : ∃ W3, w1.alloc (.cells ((List.replicate N false).map Value.bool).toArray 4) = W3 := ⟨_, rfl⟩
  have B3 : BoolsAt w1.heap.size (List.replicate N false) W3 := by rw [← hW3]; exact new_at _ _
  have b3' : Below w1.heap.size w1 W3 := by rw [← hW3]; exact below_alloc _ _
  rw [hW3] at mk
  have bw3 := bw1.trans (b3'.mono bw1.size)
  have m3 := at_below m1 b3'
  have l1 := bw1.size
  have lW : w.heap.size < w1.heap.size := (Array.getElem?_eq_some_iff.1 m1).1
  have H3 := Lib.hid (And.intro B3 (And.intro bw3 m3))
  clear y0 y1 y2 hW RF hb1 m1 bw1 B3 b3' m3
  refine Lib.hid ?_
  go_wp2_with (go_at_call 34; refine (K.out _).mono ?_; rintro e wq ⟨rfl, hw1⟩; have hw1 := hw1.symm; subst hw1; refine Hid.out ?_)
  clear mk K
  refine Lib.hid ?_
  go_wp2_with fail
  go_loopw [10] (fun is wr => ∃ (k : Nat), is = .int .i64 (k : Int) ∧ k ≤ N ∧ k ≤ 12 ∧ Hid (BoolsAt w1.heap.size (markL ⟨0, k⟩ true (List.replicate N false)) wr) ∧ Hid (W3.grownBy wr (some w1.heap.size))) (fun is _ => 12 - (intOf is).toNat)
  case atStart => exact ⟨0, rfl, Nat.zero_le _, Nat.zero_le _, by rw [mark_nil]; exact Lib.hid H3.out.1, Lib.hid (World.grownBy.refl _ _)⟩
  case round =>
    obtain ⟨k, rfl, hk, hk12, HA, HG⟩ := hrel
    obtain ⟨Wa, hWa⟩ : ∃ W, W = wr := ⟨_, rfl⟩
    subst hWa
    obtain ⟨q1, hq1⟩ : ∃ q : Bool, (q = true ↔ k < N ∧ k < 12) := ⟨decide (k < N ∧ k < 12), by simp⟩
    go_upto_region 7 with fail
    go_cut [39] from 32 to 44 (fun s39 wx => s39 = .bool q1 ∧ wx = Wa)
    case first =>
      by_cases c1 : k < N
      · have ik1 : (k : Int) < (N : Int) := by omega
        by_cases c2 : k < 12
        · obtain rfl : q1 = true := hq1.2 ⟨c1, c2⟩
          have ik2 : (k : Int) < 12 := by omega
          clear hq1
          go_wp2_with fail
          go_meet
          exact ⟨rfl, rfl⟩
        · obtain rfl : q1 = false := by cases hq : q1 with | false => rfl | true => exact absurd (hq1.1 hq).2 c2
          have ik2 : ¬ ((k : Int) < 12) := by omega
          clear hq1
          go_wp2_with fail
          go_meet
          exact ⟨rfl, rfl⟩
      · obtain rfl : q1 = false := by cases hq : q1 with | false => rfl | true => exact absurd (hq1.1 hq).1 c1
        have ik1 : ¬ ((k : Int) < (N : Int)) := by omega
        clear hq1
        go_wp2_with fail
        go_meet
        exact ⟨rfl, rfl⟩
    case rest =>
      obtain ⟨rfl, hwc⟩ := hcut
      subst hwc
      obtain ⟨Wa, hWa⟩ : ∃ W, W = wc := ⟨_, rfl⟩
      subst hWa
      cases q1 with
      | true =>
        have c1 := hq1.1 rfl
        have ik1 : (k : Int) < (N : Int) := by omega
        have ik3 : k < 12 := c1.2
        have ik0 : (0 : Int) ≤ (k : Int) := by omega
        obtain ⟨xx, c0⟩ := bools_cell (k := k) HA.out (by rw [mark_len, List.length_replicate]; omega)
        have f0 := frozenAt HA.out k
        have HS := Lib.hid (bools_set (k := k) HA.out true)
        clear HA c1 hq1
        go_wp2_with fail
        exact ⟨⟨k + 1, by go_num, by omega, by omega, Lib.hid (by have := HS.out; have e := mark_step 0 k true (List.replicate N false); rw [Nat.zero_add] at e; rw [e] at this; exact this), Lib.hid (grown_set HG.out _ _)⟩, by simp [intOf]; omega⟩
      | false =>
        have hkm : k = min N 12 := by
          have c1 : ¬ (k < N ∧ k < 12) := fun h => by have := hq1.2 h; cases this
          omega
        have A1 : Hid (BoolsAt w1.heap.size L1 Wa) := Lib.hid (by rw [← HM.out.1, ← hkm]; exact HA.out)
        clear HA hkm hq1
        have lg : w1.heap.size < Wa.heap.size := (Array.getElem?_eq_some_iff.1 A1.out).1
        obtain ⟨q2, hq2⟩ : ∃ q : Bool, (q = true ↔ ¬ (kd = 1 ∨ kd = 2)) := ⟨decide (¬ (kd = 1 ∨ kd = 2)), by simp⟩
        go_upto_region 10 with fail
        go_cut [50] (fun s50 wx => s50 = .bool q2 ∧ wx = Wa)
        case first =>
          by_cases c1 : kd = 1
          · obtain rfl : q2 = false := by cases hq : q2 with | false => rfl | true => exact absurd (.inl c1) (hq2.1 hq)
            have j1 : (kd : Int) = 1 := by omega
            clear hq2
            go_wp2_with fail
            go_meet
            exact ⟨rfl, rfl⟩
          · have j1 : ¬ ((kd : Int) = 1) := by omega
            by_cases c2 : kd = 2
            · obtain rfl : q2 = false := by cases hq : q2 with | false => rfl | true => exact absurd (.inr c2) (hq2.1 hq)
              have j2 : (kd : Int) = 2 := by omega
              clear hq2
              go_wp2_with fail
              go_meet
              exact ⟨rfl, rfl⟩
            · obtain rfl : q2 = true := hq2.2 (by omega)
              have j2 : ¬ ((kd : Int) = 2) := by omega
              clear hq2
              go_wp2_with fail
              go_meet
              exact ⟨by simp [j1, j2], rfl⟩
        case rest =>
          obtain ⟨rfl, hwc⟩ := hcut
          subst hwc
          obtain ⟨Wa, hWa⟩ : ∃ W, W = wc := ⟨_, rfl⟩
          subst hWa
          cases q2 with
          | true =>
            have hL : L = L1 := by
              have := HM.out.2.2.2.2.2.1
              rw [if_pos (hq2.1 rfl)] at this
              exact this
            clear hq2
            go_wp2_with fail
            refine bodyPost_ret (v := .tuple #[.slice (some ⟨w1.heap.size, 0, none⟩) N N, .int .i64 0]) (by simp [results, Tryz.results20, go_sem]) rfl ⟨w1.heap.size, rfl, l1, by rw [hL]; exact A1.out, ?_⟩
            exact H3.out.2.1.grown HG.out (by have := H3.out.2.1.size; omega) (fun j hj => by cases hj; omega)
          | false =>
            have hkd : kd = 1 ∨ kd = 2 := by
              rcases Classical.em (kd = 1 ∨ kd = 2) with h | h
              · exact h
              · have := hq2.2 h
                cases this
            obtain ⟨_, _, hn16, h12⟩ := HM.out.2.2.2.2.2.2 hkd
            have HKD := Lib.hid hkd
            clear hq2
            have wn1 := wrapL (16 * (n : Int)) (by omega) (by omega)
            have wn2 := wrapL (12 + 16 * (n : Int)) (by omega) (by omega)
            go_wp2_with fail
            go_loopw [11] (fun is wr => ∃ (k : Nat), is = .int .i64 (k : Int) ∧ k ≤ 12 + 16 * n ∧ Hid (BoolsAt w1.heap.size (markL ⟨0, k⟩ true L1) wr) ∧ Hid (W3.grownBy wr (some w1.heap.size))) (fun is _ => 12 + 16 * n - (intOf is).toNat)
            case atStart => exact ⟨0, rfl, Nat.zero_le _, by rw [mark_nil]; exact A1, HG⟩
            case round =>
              clear A1 HG lg
              obtain ⟨k, rfl, hk, HA, HG⟩ := hrel
              obtain ⟨Wb, hWb⟩ : ∃ W, W = wr := ⟨_, rfl⟩
              subst hWb
              by_cases c1 : k < 12 + 16 * n
              · have ik1 : (k : Int) < 12 + 16 * (n : Int) := by omega
                have ik2 : (k : Int) < (N : Int) := by omega
                have ik0 : (0 : Int) ≤ (k : Int) := by omega
                obtain ⟨xx, c0⟩ := bools_cell (k := k) HA.out (by rw [mark_len, HLn.out.1]; omega)
                have f0 := frozenAt HA.out k
                have HS := Lib.hid (bools_set (k := k) HA.out true)
                clear HA
                go_wp2_with fail
                exact ⟨⟨k + 1, by go_num, by omega, Lib.hid (by have := HS.out; have e := mark_step 0 k true L1; rw [Nat.zero_add] at e; rw [e] at this; exact this), Lib.hid (grown_set HG.out _ _)⟩, by simp [intOf]; omega⟩
              · have hkm : k = 12 + 16 * n := by omega
                have ik1 : ¬ ((k : Int) < 12 + 16 * (n : Int)) := by omega
                have A2 : Hid (BoolsAt w1.heap.size L2 Wb) := Lib.hid (by rw [← HM.out.2.1, ← hkm]; exact HA.out)
                have b2 : Below w.heap.size w Wb := H3.out.2.1.grown HG.out (by have := H3.out.2.1.size; omega) (fun j hj => by cases hj; omega)
                have m2 := grown_at HG.out H3.out.2.2 (by omega)
                have CW := Lib.hid (WN.out Wb (HP.out.2.on b2))
                have lg : w1.heap.size < Wb.heap.size := (Array.getElem?_eq_some_iff.1 A2.out).1
                have y0 := cellsAt m2 0
                have y1 := cellsAt m2 1
                have y2 := cellsAt m2 2
                simp only [List.getElem?_toArray, List.getElem?_cons_zero, List.getElem?_cons_succ] at y0 y1 y2
                have H2 := Lib.hid (And.intro b2 m2)
                clear HA hkm HG b2 m2 hkd
                go_wp2_with (go_at_call 35; refine CW.out.mono ?_; rintro e w5 ⟨V, rfl, oV, hb5⟩; obtain ⟨va, vc, rfl⟩ := own_slice oV; refine Hid.out ?_)
                clear y0 y1 y2 CW ik1
                have A5 := at_below A2.out hb5
                have b5 := H2.out.1.trans (hb5.mono H2.out.1.size)
                have m5 := at_below H2.out.2 hb5
                have H5 := Lib.hid (And.intro A5 (And.intro b5 (And.intro m5 oV)))
                have l5 := hb5.size
                clear A5 b5 m5 oV A2 H2 hb5
                refine Lib.hid ?_
                go_wp2_with fail
                go_loopw [13] (fun is wr => ∃ (k : Nat), is = .int .i64 (k : Int) ∧ k ≤ n ∧ Hid (BoolsAt w1.heap.size (marksD (WL.take k) L2) wr) ∧ Hid (w5.grownBy wr (some w1.heap.size))) (fun is _ => n - (intOf is).toNat)
                case atStart => exact ⟨0, rfl, Nat.zero_le _, Lib.hid H5.out.1, Lib.hid (World.grownBy.refl _ _)⟩
                case round =>
                  obtain ⟨i, rfl, hi3, HA, HG⟩ := hrel
                  obtain ⟨Wc, hWc⟩ : ∃ W, W = wr := ⟨_, rfl⟩
                  subst hWc
                  by_cases c1 : i < n
                  · have ii1 : (i : Int) < (n : Int) := by omega
                    have ii0 : (0 : Int) ≤ (i : Int) := by omega
                    obtain ⟨x, hx⟩ : ∃ x, WL[i]? = some x := ⟨_, List.getElem?_eq_getElem (by rw [HM.out.2.2.2.2.1]; exact c1)⟩
                    have hxo := HM.out.2.2.2.1 x (List.mem_of_getElem? hx)
                    have hst := marksD_take WL i x hx L2
                    obtain ⟨gw, cw, cs, hve, hbg, hgw⟩ := own_form H5.out.2.2.2 (by omega)
                    cases hve
                    have CL : Hid (∀ wx, w5.grownBy wx (some w1.heap.size) → wx.cell? ⟨gw, i * 5 + 1, none⟩ = some (.int .i64 (x.st : Int)) ∧ wx.cell? ⟨gw, i * 5 + 3, none⟩ = some (.int .i64 (x.fr : Int)) ∧ wx.cell? ⟨gw, i * 5 + 4, none⟩ = some (.int .i64 (x.to : Int))) := by
                      intro wx hgx
                      have o := H5.out.2.2.2.kept hgx (.inr (fun h => by have h2 : gw = w1.heap.size := Option.some.inj h; omega))
                      obtain ⟨t0, t1, t2, t3, t4⟩ := wcells_at WL i x hx
                      exact ⟨(o.cellAt (i * 5 + 1) (by omega)).trans t1, (o.cellAt (i * 5 + 3) (by omega)).trans t3, (o.cellAt (i * 5 + 4) (by omega)).trans t4⟩
                    obtain ⟨d1, d3, d4⟩ := CL.out Wc HG.out
                    obtain ⟨tag, st, size, fr, tz⟩ := x
                    simp only at d1 d3 d4 hst
                    have hfr := hxo.le
                    have hlt := hxo.lt
                    have hlt2 := hxo.lt2
                    have hhere := hxo.here
                    simp only at hfr hlt hlt2 hhere
                    simp only at CL
                    clear hx hxo hgw
                    go_wp2_with fail
                    clear d1 d3 d4
                    by_cases hs : st = 0
                    · subst hs
                      rw [if_pos rfl] at hst
                      have hto : tz ≤ N := (hhere (.inl rfl)).1
                      have HST := Lib.hid hst
                      clear hst hhere
                      go_loopw [14] (fun js wr => ∃ (q : Nat), js = .int .i64 (q : Int) ∧ fr ≤ q ∧ q ≤ tz ∧ Hid (BoolsAt w1.heap.size (markL ⟨fr, q - fr⟩ true (marksD (WL.take i) L2)) wr) ∧ Hid (w5.grownBy wr (some w1.heap.size))) (fun js _ => tz - (intOf js).toNat)
                      case atStart => exact ⟨fr, rfl, Nat.le_refl _, hfr, by rw [Nat.sub_self, mark_nil]; exact HA, HG⟩
                      case round =>
                        clear HA HG
                        obtain ⟨q, rfl, hq1, hq2, HA, HG⟩ := hrel
                        obtain ⟨Wd, hWd⟩ : ∃ W, W = wr := ⟨_, rfl⟩
                        subst hWd
                        obtain ⟨d1, d3, d4⟩ := CL.out Wd HG.out
                        have d1 : Wd.cell? ⟨gw, i * 5 + 1, none⟩ = some (.int .i64 0) := d1
                        by_cases c2 : q < tz
                        · have jq1 : (q : Int) < (tz : Int) := by omega
                          have jq2 : (q : Int) < (N : Int) := by omega
                          have jq0 : (0 : Int) ≤ (q : Int) := by omega
                          obtain ⟨xx, c0⟩ := bools_cell (k := q) HA.out (by rw [mark_len, marksD_len, HLn.out.2.1]; omega)
                          have f0 := frozenAt HA.out q
                          have HS := Lib.hid (bools_set (k := q) HA.out true)
                          clear HA
                          go_wp2_with fail
                          exact ⟨⟨q + 1, by go_num, by omega, by omega, Lib.hid (by have := HS.out; have e := mark_step fr (q - fr) true (marksD (WL.take i) L2); rw [show fr + (q - fr) = q by omega] at e; rw [e] at this; rw [show q + 1 - fr = q - fr + 1 by omega]; exact this), Lib.hid (grown_set HG.out _ _)⟩, by simp [intOf]; omega⟩
                        · have jq1 : ¬ ((q : Int) < (tz : Int)) := by omega
                          have A4 : Hid (BoolsAt w1.heap.size (marksD (WL.take (i + 1)) L2) Wd) := Lib.hid (by rw [HST.out, show tz = q by omega]; exact HA.out)
                          clear HA
                          go_wp2_with fail
                          exact ⟨⟨i + 1, by go_num, by omega, A4, HG⟩, by simp [intOf]; omega⟩
                    · rw [if_neg hs] at hst
                      have js : ¬ ((st : Int) = 0) := by omega
                      have js2 : ((st : Int) == 0) = false := beq_eq_false_iff_ne.2 js
                      have A4 : Hid (BoolsAt w1.heap.size (marksD (WL.take (i + 1)) L2) Wc) := Lib.hid (by rw [hst]; exact HA.out)
                      clear hst hhere HA
                      go_loopw [14] (fun js wr => js = .int .i64 (fr : Int) ∧ wr = Wc) (fun js _ => 0)
                      case atStart => exact ⟨rfl, rfl⟩
                      case round =>
                        obtain ⟨rfl, hwr⟩ := hrel
                        subst hwr
                        obtain ⟨d1, d3, d4⟩ := CL.out _ HG.out
                        go_wp2_with fail
                        exact ⟨⟨i + 1, by go_num, by omega, A4, HG⟩, by simp [intOf]; omega⟩
                  · have hie : i = n := by omega
                    have ii1 : ¬ ((i : Int) < (n : Int)) := by omega
                    have A3 : Hid (BoolsAt w1.heap.size L3 Wc) := Lib.hid (by
                      have := HA.out
                      rw [List.take_of_length_le (by rw [HM.out.2.2.2.2.1]; omega), HM.out.2.2.1] at this
                      exact this)
                    have b6 : Below w.heap.size w Wc := H5.out.2.1.grown HG.out (by have := H5.out.2.1.size; omega) (fun j hj => by cases hj; omega)
                    have m6 := grown_at HG.out H5.out.2.2.1 (by omega)
                    have CT := Lib.hid (T3.out Wc (HP.out.2.on b6))
                    have y0 := cellsAt m6 0
                    have y1 := cellsAt m6 1
                    have y2 := cellsAt m6 2
                    simp only [List.getElem?_toArray, List.getElem?_cons_zero, List.getElem?_cons_succ] at y0 y1 y2
                    have H6 := Lib.hid (And.intro b6 m6)
                    clear HA HG b6 m6 H5 hie
                    go_wp2_with (go_at_call 36; refine CT.out.mono ?_; rintro e w7 ⟨rfl, hb7⟩; refine Hid.out ?_)
                    clear y0 y1 y2 CT ii1
                    have A7 := at_below A3.out hb7
                    have b7 := H6.out.1.trans (hb7.mono H6.out.1.size)
                    have m7 := at_below H6.out.2 hb7
                    obtain ⟨q5, hq5⟩ : ∃ q : Bool, (q = true ↔ s3 = 0 ∧ countL b3 6 12 = 0) := ⟨decide (s3 = 0 ∧ countL b3 6 12 = 0), by simp⟩
                    have NV := Lib.hid (fun wx => namingV b3 wx (by omega))
                    have H7 := Lib.hid (And.intro A7 (And.intro b7 m7))
                    clear A7 b7 m7 hb7 H6 A3
                    refine Lib.hid ?_
                    go_upto_region 25 with fail
                    go_cut [110] (fun s110 wx => s110 = .bool q5 ∧ wx = w7)
                    case first =>
                      obtain ⟨cn, hcn⟩ : ∃ c, countL b3 6 12 = c := ⟨_, rfl⟩
                      rw [hcn] at hq5
                      have NV2 : Hid (∀ wx, Calls Tryz.prog 39 #[.string ⟨b3.toArray⟩] wx fun e w' => e = .returned (.int .i64 (cn : Int)) ∧ w' = wx) := Lib.hid (fun wx => by rw [← hcn]; exact NV.out wx)
                      clear NV hcn
                      by_cases c1 : s3 = 0
                      · have js1 : ((s3 : Int) == 0) = true := beq_iff_eq.2 (by omega)
                        have js2 : decide ((s3 : Int) = 0) = true := decide_eq_true (by omega)
                        by_cases c2 : cn = 0
                        · obtain rfl : q5 = true := hq5.2 ⟨c1, c2⟩
                          have jc : (cn : Int) = 0 := by omega
                          clear hq5 c1 c2
                          go_wp2_with (go_at_call 39; refine (NV2.out _).mono ?_; rintro e wq ⟨rfl, hwq⟩; have hwq := hwq.symm; subst hwq)
                          go_meet
                          exact ⟨rfl, rfl⟩
                        · obtain rfl : q5 = false := by cases hq : q5 with | false => rfl | true => exact absurd (hq5.1 hq).2 c2
                          have jc : ¬ ((cn : Int) = 0) := by omega
                          clear hq5 c1 c2
                          go_wp2_with (go_at_call 39; refine (NV2.out _).mono ?_; rintro e wq ⟨rfl, hwq⟩; have hwq := hwq.symm; subst hwq)
                          go_meet
                          exact ⟨by rw [show ((cn : Int) == 0) = false from beq_eq_false_iff_ne.2 jc], rfl⟩
                      · obtain rfl : q5 = false := by cases hq : q5 with | false => rfl | true => exact absurd (hq5.1 hq).1 c1
                        have js : ¬ ((s3 : Int) = 0) := by omega
                        have js1 : ((s3 : Int) == 0) = false := beq_eq_false_iff_ne.2 js
                        clear hq5
                        go_wp2_with fail
                        go_meet
                        exact ⟨rfl, rfl⟩
                    case rest =>
                      obtain ⟨rfl, hwc⟩ := hcut
                      subst hwc
                      obtain ⟨W7, hW7⟩ : ∃ W, W = wc := ⟨_, rfl⟩
                      subst hW7
                      clear NV
                      have hkk : ¬ ¬ (kd = 1 ∨ kd = 2) := fun h => h HKD.out
                      cases q5 with
                      | false =>
                        have hL : L = L3 := by
                          have := HM.out.2.2.2.2.2.1
                          rw [if_neg hkk, if_neg (fun h => by have := hq5.2 h; cases this)] at this
                          exact this
                        clear hq5 hkk
                        go_wp2_with fail
                        exact bodyPost_ret (v := .tuple #[.slice (some ⟨w1.heap.size, 0, none⟩) N N, .int .i64 0]) (by simp [results, Tryz.results20, go_sem]) rfl ⟨w1.heap.size, rfl, l1, by rw [hL]; exact H7.out.1, H7.out.2.1⟩
                      | true =>
                        obtain ⟨hs, hc⟩ := hq5.1 rfl
                        have hL : L = hideK P b3 (num2 b3 2) f3 (b3.length - (6 + 12 * num2 b3 2)) L3 := by
                          have := HM.out.2.2.2.2.2.1
                          rw [if_neg hkk, if_pos ⟨hs, hc⟩] at this
                          exact this
                        have h6 := count_ok hc
                        have HH := Lib.hid (fun (wx : World) (hb : Below w.heap.size w wx) (hA : BoolsAt w1.heap.size L3 wx) => hidesV P (.slice ta P.tags.length tc) (.slice ia P.ids.length ic) b3 w wx HP.out.2 hb h8i (by omega) h6.1 (num2 b3 2) rfl h6.2 w1.heap.size f3 (N - f3) (by omega) L3 (by rw [HLn.out.2.2]; exact hb3) hA)
                        unfold pv strV at HH
                        have hszS : (⟨b3.toArray⟩ : ByteArray).size = b3.length := by show Array.size _ = _; simp
                        have y0 := cellsAt H7.out.2.2 0
                        have y1 := cellsAt H7.out.2.2 1
                        have y2 := cellsAt H7.out.2.2 2
                        simp only [List.getElem?_toArray, List.getElem?_cons_zero, List.getElem?_cons_succ] at y0 y1 y2
                        have ws := wrapL ((f3 : Int) + (b3.length : Int)) (by omega) (by omega)
                        have i1 : (0 : Int) ≤ (f3 : Int) := by omega
                        have i2 : (f3 : Int) ≤ (f3 : Int) + (b3.length : Int) := by omega
                        have i3 : (f3 : Int) + (b3.length : Int) ≤ (N : Int) := by omega
                        have hne : ¬ (N = f3) := by have := h6.1; omega
                        have hz : ((f3 : Int) + (b3.length : Int)).toNat - f3 = b3.length := by omega
                        have B7 : BoolsAt w1.heap.size L3 W7.drew := H7.out.1
                        have m7 : W7.drew.heap[w.heap.size]? = _ := H7.out.2.2
                        have CH := Lib.hid (HH.out W7.drew H7.out.2.1.drew B7)
                        have HX := Lib.hid m7
                        clear hq5 hkk hs hc h6 HH B7 m7
                        go_upto_region 26 with fail
                        go_region_held3 (fun w' => w'.cell? ⟨w.heap.size, 0, none⟩ = some (.slice ta P.tags.length tc) ∧ w'.cell? ⟨w.heap.size, 1, none⟩ = some (.slice ia P.ids.length ic) ∧ w'.cell? ⟨w.heap.size, 2, none⟩ = some (.int .i64 P.text)) (go_keep) (first | (go_at_call 46; refine CH.out.mono ?_; rintro e w8 ⟨rfl, hg8, hB8⟩; have b8 : Below w.heap.size w w8 := H7.out.2.1.drew.grown hg8 H7.out.2.1.size (fun j hj => by cases hj; exact l1); have m8 := grown_at hg8 HX.out (by omega); have p0 := cellsAt m8 0; have p1 := cellsAt m8 1; have p2 := cellsAt m8 2; simp only [List.getElem?_toArray, List.getElem?_cons_zero, List.getElem?_cons_succ] at p0 p1 p2; clear hg8 m8))
                        all_goals (
                          go_wp2_with fail
                          exact bodyPost_ret (v := .tuple #[.slice (some ⟨w1.heap.size, 0, none⟩) N N, .int .i64 0]) (by simp [results, Tryz.results20, go_sem]) rfl ⟨w1.heap.size, rfl, l1, by rw [hL]; exact hB8, b8⟩)
end Go.Proofs.YteibjmlimcpaoaaGreatDoor.V
