/-
  The bits of OS/2: which are set, and how many of three; what the library's OnesCount answers of them.
  What package look's rights answers: as the plain program says; nothing but the meter turns.
  What package look's rankOf, countRanges and the two ways of reading a range answer: as the plain program says; nothing but the meter turns.
  What package look's countGreat and countSmall answer: as the plain program says; nothing but the meter turns.
  What package look's countSmall answers: as the plain program says; nothing but the meter turns.
  What package look's partOf answers: as the plain program says; nothing but the meter turns.
  What package look's cover answers: as the plain program says; nothing but the meter turns.
-/
import Derived.Test.YteibjmlimcpaoaaGreatDoorWb
import Derived.Deep.RegionHeld3
import Derived.Deep.DeepCutAuto
import Derived.Deep.CutBlock
import Derived.Test.YteibjmlimcpaoaaGreatDoorWd
import Derived.Test.YteibjmlimcpaoaaGreatDoorPa
set_option linter.unusedVariables false
set_option linter.unusedSimpArgs false
namespace Go.Proofs.YteibjmlimcpaoaaGreatDoor.W
open Go.RowKit Go.Sort

/-- the bits 2, 4 and 8 of a number -/
def three (n : Nat) : Nat := n / 2 % 2 * 2 + n / 4 % 2 * 4 + n / 8 % 2 * 8
theorem and14 (n : Nat) : n &&& 14 = three n := by
  have h : (n &&& 14) % 2 ^ 4 = (n % 2 ^ 4) &&& (14 % 2 ^ 4) := Nat.and_mod_two_pow
  have hl : n &&& 14 ≤ 14 := Nat.and_le_right
  have h2 : n &&& 14 = (n % 16) &&& 14 := by
    have : (n &&& 14) % 16 = n &&& 14 := Nat.mod_eq_of_lt (by omega)
    rw [← this]
    exact h
  rw [h2]
  have q : ∀ i : Fin 16, i.val &&& 14 = three i.val := by decide
  have := q ⟨n % 16, by omega⟩
  simp only at this
  rw [this]
  unfold three
  omega
theorem andOther (n : Nat) (h : n < 65536) : (n &&& 64753 = 0) ↔ otherBits n = false := by
  have h1 : (n &&& 64753) % 2 ^ 8 = (n % 2 ^ 8) &&& (64753 % 2 ^ 8) := Nat.and_mod_two_pow
  have h2 : (n &&& 64753) / 2 ^ 8 = (n / 2 ^ 8) &&& (64753 / 2 ^ 8) := Nat.and_div_two_pow
  have q1 : ∀ i : Fin 256, (i.val &&& 241 = 0) ↔ (i.val % 2 = 0 ∧ i.val / 16 = 0) := by decide +kernel
  have q2 : ∀ i : Fin 256, (i.val &&& 252 = 0) ↔ i.val / 4 = 0 := by decide +kernel
  have e1 := q1 ⟨n % 256, by omega⟩
  have e2 := q2 ⟨n / 256, by omega⟩
  simp only at e1 e2
  have h1' : (n &&& 64753) % 256 = (n % 256) &&& 241 := h1
  have h2' : (n &&& 64753) / 256 = (n / 256) &&& 252 := h2
  have key : (n &&& 64753 = 0) ↔ ((n % 256) &&& 241 = 0 ∧ (n / 256) &&& 252 = 0) := by
    rw [← h1', ← h2']
    omega
  rw [key, e1, e2]
  unfold otherBits
  rw [decide_eq_false_iff_not]
  omega
theorem bits_of (n : Nat) (h : n < 65536) : (bits .andNot .i64 (n : Int) 782 = 0 ↔ otherBits n = false) ∧ bits .and .i64 (n : Int) 14 = ((three n : Nat) : Int) := by
  refine ⟨?_, ?_⟩
  · rw [← andOther n h]
    have hle : n &&& 64753 ≤ n := Nat.and_le_left
    have e : bits .andNot .i64 (n : Int) 782 = ((n &&& 64753 : Nat) : Int) := by
      have h1 : (BitVec.ofInt 64 (n : Int)).toNat = n := by
        rw [BitVec.ofInt_natCast, BitVec.toNat_ofNat]; exact Nat.mod_eq_of_lt (by omega)
      have h2 : (~~~ BitVec.ofInt 64 (782 : Int)).toNat = 18446744073709550833 := by decide
      have h3 : n &&& 18446744073709550833 = n &&& 64753 := by
        have a1 : (n &&& 18446744073709550833) % 2 ^ 16 = (n % 2 ^ 16) &&& (18446744073709550833 % 2 ^ 16) := Nat.and_mod_two_pow
        have a2 : n &&& 18446744073709550833 ≤ n := Nat.and_le_left
        have a3 : (n &&& 18446744073709550833) % 65536 = n &&& 18446744073709550833 := Nat.mod_eq_of_lt (by omega)
        have a4 : n % 65536 = n := Nat.mod_eq_of_lt h
        rw [← a3]
        rw [show (2 : Nat) ^ 16 = 65536 from rfl, a4] at a1
        exact a1
      show IntKind.i64.wrap ((BitVec.ofInt 64 (n : Int) &&& ~~~ BitVec.ofInt 64 (782 : Int)).toNat : Int) = _
      rw [BitVec.toNat_and, h1, h2, h3]
      exact wrapL _ (by omega) (by omega)
    rw [e]
    omega
  · have := (bits_nat .i64 63 (by decide) (fun n h0 h1 => wrapL n h0 (by omega)) n 14 (by omega) (by omega)).1
    rw [and14] at this
    exact this
theorem three_cases (n : Nat) : (three n = 0 ∧ usesOf n = 0) ∨ (three n = 2 ∧ usesOf n = 1) ∨ (three n = 4 ∧ usesOf n = 1) ∨ (three n = 6 ∧ usesOf n = 2) ∨ (three n = 8 ∧ usesOf n = 1) ∨ (three n = 10 ∧ usesOf n = 2) ∨ (three n = 12 ∧ usesOf n = 2) ∨ (three n = 14 ∧ usesOf n = 3) := by
  unfold three usesOf
  omega

set_option maxRecDepth 100000 in
set_option maxHeartbeats 2000000 in
theorem ones64W (k u : Nat) (w : World) (h : (k = 0 ∧ u = 0) ∨ (k = 2 ∧ u = 1) ∨ (k = 4 ∧ u = 1) ∨ (k = 6 ∧ u = 2) ∨ (k = 8 ∧ u = 1) ∨ (k = 10 ∧ u = 2) ∨ (k = 12 ∧ u = 2) ∨ (k = 14 ∧ u = 3)) :
    Calls Tryz.prog 139 #[.int .u64 (k : Int)] w fun e w' => e = .returned (.int .i64 (u : Int)) ∧ w' = w := by
  rcases h with ⟨rfl, rfl⟩ | ⟨rfl, rfl⟩ | ⟨rfl, rfl⟩ | ⟨rfl, rfl⟩ | ⟨rfl, rfl⟩ | ⟨rfl, rfl⟩ | ⟨rfl, rfl⟩ | ⟨rfl, rfl⟩
  all_goals (
    go_enter Tryz.func139, Tryz.ntmps139
    go_wp2
    go_ret
    exact ⟨by kernel_rfl, rfl⟩)
set_option maxRecDepth 100000 in
set_option maxHeartbeats 2000000 in
theorem onesW (k u : Nat) (w : World) (h : (k = 0 ∧ u = 0) ∨ (k = 2 ∧ u = 1) ∨ (k = 4 ∧ u = 1) ∨ (k = 6 ∧ u = 2) ∨ (k = 8 ∧ u = 1) ∨ (k = 10 ∧ u = 2) ∨ (k = 12 ∧ u = 2) ∨ (k = 14 ∧ u = 3)) :
    Calls Tryz.prog 119 #[.int .u64 (k : Int)] w fun e w' => e = .returned (.int .i64 (u : Int)) ∧ w' = w := by
  have A := Lib.hid (ones64W k u w h)
  clear h
  go_enter Tryz.func119, Tryz.ntmps119
  go_wp2_with (go_at_call 139; refine A.out.mono ?_; rintro e w1 ⟨rfl, rfl⟩)
  go_ret
  exact ⟨rfl, rfl⟩
end Go.Proofs.YteibjmlimcpaoaaGreatDoor.W

set_option linter.unusedVariables false
set_option linter.unusedSimpArgs false
namespace Go.Proofs.YteibjmlimcpaoaaGreatDoor.W
open Go.RowKit Go.Sort

theorem rights_run (D : List UInt8) (t : Wn) (m : Mt) (version set_ : Nat) (m1 m2 : Mt) (h1 : (t.two 0).run D m = (version, m1)) (h2 : (t.two 8).run D m1 = (set_, m2)) (h : ¬ t.s < 10) :
    (rightsP t 0).run D m = (if 5 < version then (7, 0, 0) else if otherBits set_ = true ∨ (3 ≤ version ∧ 1 < usesOf set_) then (6, 0, 0) else (0, version, set_), m2) := by
  unfold rightsP
  rw [if_neg (by simp), if_neg h, Pr.run_bind, h1]
  simp only
  rw [Pr.run_bind, h2]
  simp only
  split
  · rfl
  · split <;> rfl

set_option maxRecDepth 100000 in
set_option maxHeartbeats 4000000 in
theorem rightsW (p st : Nat) (q : Option Addr) (t : Wn) (m : Mt) (D : List UInt8) (w : World) (hst : st ≤ 8) (hq : st = 0 → q = some ⟨p, 0, none⟩ ∧ InF t D) (hm : MOk m) (h : FlAt p m D w) (a b c : Nat) (M : Mt) (hr : (rightsP t st).run D m = ((a, b, c), M)) :
    Calls Tryz.prog 80 #[wq q t, .int .i64 st] w fun e w' => e = .returned (.agg #[.int .i64 a, .int .i64 b, .int .i64 c]) ∧ FlAt p M D w' ∧ w.grownBy w' (some p) := by
  have hlt := fl_lt h
  by_cases h0 : st = 0
  · subst h0
    obtain ⟨rfl, ht⟩ := hq rfl
    obtain ⟨W, hW⟩ : ∃ W, (w.alloc (.cells #[.pointer (some ⟨p, 0, none⟩), .int .i64 (t.b : Int), .int .i64 (t.s : Int)] 126)).alloc (.cells #[.int .i64 0, .int .i64 0, .int .i64 0] 34) = W := ⟨_, rfl⟩
    have f0 : FlAt p m D W := by rw [← hW]; exact fl_alloc (fl_alloc h _) _
    have r0 : W.heap[w.heap.size]? = some (.cells #[.pointer (some ⟨p, 0, none⟩), .int .i64 (t.b : Int), .int .i64 (t.s : Int)] 126 (0, 0)) := by rw [← hW]; exact at_alloc (new_at _ _)
    have r1 : W.heap[w.heap.size + 1]? = some (.cells #[.int .i64 0, .int .i64 0, .int .i64 0] 34 (0, 0)) := by
      rw [← hW]
      have := new_at (w.alloc (.cells #[.pointer (some ⟨p, 0, none⟩), .int .i64 (t.b : Int), .int .i64 (t.s : Int)] 126)) (.cells #[.int .i64 0, .int .i64 0, .int .i64 0] 34)
      simpa using this
    have g0 : w.grownBy W (some p) := by rw [← hW]; exact grown_trans (World.grownBy_alloc _ _ _) (World.grownBy_alloc _ _ _)
    have A0 := Lib.hid (tsizeW (some ⟨p, 0, none⟩) t W)
    have y0 := cellsAt r0 0
    have y1 := cellsAt r0 1
    have y2 := cellsAt r0 2
    simp only [List.getElem?_toArray, List.getElem?_cons_zero, List.getElem?_cons_succ] at y0 y1 y2
    unfold wq at A0 ⊢
    clear h
    by_cases c1 : t.s < 10
    · have e0 : (rightsP t 0).run D m = ((5, 0, 0), m) := by unfold rightsP; rw [if_neg (by simp), if_pos c1]; rfl
      rw [e0] at hr
      cases hr
      have d1 : (t.s : Int) < 10 := by omega
      go_enter Tryz.func80, Tryz.ntmps80
      go_wp2_with (go_at_call 91; refine A0.out.mono ?_; rintro e w1 ⟨rfl, hb1⟩; refine Hid.out ?_)
      have q1 := at_below r1 hb1
      have fl1 := fl_below f0 hb1
      have gg := grown_trans g0 (grown_below (some p) hb1)
      clear y0 y1 y2 hW
      have u0 := cellsAt q1 0
      have u1 := cellsAt q1 1
      have u2 := cellsAt q1 2
      have fz0 := frozenAt q1 0
      have fz1 := frozenAt q1 1
      have fz2 := frozenAt q1 2
      simp only [List.getElem?_toArray, List.getElem?_cons_zero, List.getElem?_cons_succ] at u0 u1 u2
      refine Lib.hid ?_
      go_wp2
      obtain ⟨z0, z1, z2, zf, zg⟩ := end3 (w := w) (v0 := .int .i64 5) (v1 := .int .i64 0) (v2 := .int .i64 0) q1 (by omega) (by omega) fl1 gg
      exact bodyPost_ret (v := .agg #[.int .i64 5, .int .i64 0, .int .i64 0]) (by simp [results, Tryz.results80, go_sem, z0, z1, z2]) rfl ⟨rfl, zf, zg⟩
    · have d1 : ¬ ((t.s : Int) < 10) := by omega
      obtain ⟨version, m1, h1⟩ : ∃ x y, (t.two 0).run D m = (x, y) := ⟨_, _, rfl⟩
      obtain ⟨set_, m2, h2⟩ : ∃ x y, (t.two 8).run D m1 = (x, y) := ⟨_, _, rfl⟩
      rw [rights_run D t m version set_ m1 m2 h1 h2 c1] at hr
      have mk1 : MOk m1 := by have := MOk.run D (t.two 0) hm; rw [h1] at this; exact this
      have ub : set_ < 65536 := by have := two_lt D t 8 m1; rw [h2] at this; exact this
      obtain ⟨bo, ba⟩ := bits_of set_ ub
      have B3 := Lib.hid (fun w f => twoW p 0 t m D w (by omega) ht hm f)
      have B4 := Lib.hid (fun w f => twoW p 8 t m1 D w (by omega) ht mk1 f)
      rw [h1] at B3
      rw [h2] at B4
      simp only at B3 B4
      unfold wv at B3 B4
      have HR := Lib.hid hr
      have HB := Lib.hid (And.intro bo ba)
      clear hr h1 h2 ub bo ba
      go_enter Tryz.func80, Tryz.ntmps80
      go_wp2_with (go_at_call 91; refine A0.out.mono ?_; rintro e w1 ⟨rfl, hb1⟩; refine Hid.out ?_)
      have q0 := at_below r0 hb1
      have q1 := at_below r1 hb1
      have fl1 := fl_below f0 hb1
      have gg := grown_trans g0 (grown_below (some p) hb1)
      clear y0 y1 y2 hW A0 f0 r0 r1 g0 hb1
      have y0 := cellsAt q0 0
      have y1 := cellsAt q0 1
      have y2 := cellsAt q0 2
      simp only [List.getElem?_toArray, List.getElem?_cons_zero, List.getElem?_cons_succ] at y0 y1 y2
      have hne0 : w.heap.size ≠ p := by omega
      refine Lib.hid ?_
      go_upto_region 5 with fail
      go_cut [5, 6] (fun s5 s6 wx => s5 = .int .i64 (version : Int) ∧ s6 = .int .i64 (set_ : Int) ∧ w1.grownBy wx (some p) ∧ FlAt p m2 D wx)
      case first =>
        go_region_held3 (fun w' => w'.cell? ⟨w.heap.size, 0, none⟩ = some (.pointer (some ⟨p, 0, none⟩)) ∧ w'.cell? ⟨w.heap.size, 1, none⟩ = some (.int .i64 (t.b : Int)) ∧ w'.cell? ⟨w.heap.size, 2, none⟩ = some (.int .i64 (t.s : Int))) (go_keep) (first
          | (go_at_call_of 95 (Value.int IntKind.i64 8); refine (B4.out _ ?_).mono ?_; exact k4; rintro e w5 ⟨rfl, k5, g5⟩; obtain ⟨q50, q51, q52⟩ := box_kept (grown_trans g4 g5) q0 hne0)
          | (go_at_call_of 95 (Value.int IntKind.i64 0); refine (B3.out _ ?_).mono ?_; exact fl1; rintro e w4 ⟨rfl, k4, g4⟩; obtain ⟨q40, q41, q42⟩ := box_kept g4 q0 hne0))
        all_goals (
          go_wp2_with fail
          go_meet
          first | exact ⟨rfl, rfl, grown_drew (grown_trans g4 g5), k5⟩ | exact ⟨rfl, rfl, grown_trans g4 g5, k5⟩)
      case rest =>
        obtain ⟨rfl, rfl, g5, k5⟩ := hcut
        have q5 := grown_at g5 q1 (by omega)
        have g6 := grown_trans gg g5
        clear y0 y1 y2 B3 B4 q1 q0 fl1 gg g5
        have u0 := cellsAt q5 0
        have u1 := cellsAt q5 1
        have u2 := cellsAt q5 2
        have fz0 := frozenAt q5 0
        have fz1 := frozenAt q5 1
        have fz2 := frozenAt q5 2
        simp only [List.getElem?_toArray, List.getElem?_cons_zero, List.getElem?_cons_succ] at u0 u1 u2
        have hr := HR.out
        obtain ⟨bo, ba⟩ := HB.out
        clear HR HB
        by_cases e1 : 5 < version
        · rw [if_pos e1] at hr
          cases hr
          have d2 : (5 : Int) < (version : Int) := by omega
          clear bo ba
          go_wp2
          obtain ⟨z0, z1, z2, zf, zg⟩ := end3 (w := w) (v0 := .int .i64 7) (v1 := .int .i64 0) (v2 := .int .i64 0) q5 (by omega) (by omega) k5 g6
          exact bodyPost_ret (v := .agg #[.int .i64 7, .int .i64 0, .int .i64 0]) (by simp [results, Tryz.results80, go_sem, z0, z1, z2]) rfl ⟨rfl, zf, zg⟩
        · rw [if_neg e1] at hr
          have d2 : ¬ ((5 : Int) < (version : Int)) := by omega
          cases ho : otherBits set_ with
          | true =>
            rw [ho, if_pos (.inl rfl)] at hr
            cases hr
            have d3 : ¬ (bits .andNot .i64 (set_ : Int) 782 = 0) := fun x => by have := bo.1 x; rw [ho] at this; cases this
            clear bo ba ho
            go_wp2
            obtain ⟨z0, z1, z2, zf, zg⟩ := end3 (w := w) (v0 := .int .i64 6) (v1 := .int .i64 0) (v2 := .int .i64 0) q5 (by omega) (by omega) k5 g6
            exact bodyPost_ret (v := .agg #[.int .i64 6, .int .i64 0, .int .i64 0]) (by simp [results, Tryz.results80, go_sem, z0, z1, z2]) rfl ⟨rfl, zf, zg⟩
          | false =>
            have d3 : bits .andNot .i64 (set_ : Int) 782 = 0 := bo.2 ho
            by_cases e3 : 3 ≤ version
            · have d4 : (version : Int) ≥ 3 := by omega
              have d4' : (3 : Int) ≤ (version : Int) := by omega
              have O := Lib.hid (fun w => onesW (three set_) (usesOf set_) w (three_cases set_))
              have h14 : three set_ ≤ 14 := by unfold three; omega
              have hu3 : usesOf set_ ≤ 3 := by unfold usesOf; omega
              generalize three set_ = k at *
              by_cases e4 : 1 < usesOf set_
              · rw [if_pos (.inr ⟨e3, e4⟩)] at hr
                cases hr
                have d5 : (1 : Int) < ((usesOf set_ : Nat) : Int) := by omega
                generalize usesOf set_ = u at *
                clear bo ho
                go_wp2_with (go_at_call 119; refine (O.out _).mono ?_; rintro e w6 ⟨rfl, rfl⟩)
                obtain ⟨z0, z1, z2, zf, zg⟩ := end3 (w := w) (v0 := .int .i64 6) (v1 := .int .i64 0) (v2 := .int .i64 0) q5 (by omega) (by omega) k5 g6
                exact bodyPost_ret (v := .agg #[.int .i64 6, .int .i64 0, .int .i64 0]) (by simp [results, Tryz.results80, go_sem, z0, z1, z2]) rfl ⟨rfl, zf, zg⟩
              · rw [ho, if_neg (by rintro (x | x); cases x; exact e4 x.2)] at hr
                cases hr
                have d5 : ¬ ((1 : Int) < ((usesOf c : Nat) : Int)) := by omega
                generalize usesOf c = u at *
                clear bo ho
                go_wp2_with (go_at_call 119; refine (O.out _).mono ?_; rintro e w6 ⟨rfl, rfl⟩)
                obtain ⟨z0, z1, z2, zf, zg⟩ := end3 (w := w) (v0 := .int .i64 0) (v1 := .int .i64 (b : Int)) (v2 := .int .i64 (c : Int)) q5 (by omega) (by omega) k5 g6
                exact bodyPost_ret (v := .agg #[.int .i64 0, .int .i64 (b : Int), .int .i64 (c : Int)]) (by simp [results, Tryz.results80, go_sem, z0, z1, z2]) rfl ⟨rfl, zf, zg⟩
            · have d4 : ¬ ((version : Int) ≥ 3) := by omega
              have d4' : ¬ ((3 : Int) ≤ (version : Int)) := by omega
              rw [ho, if_neg (by rintro (x | x); cases x; exact e3 x.1)] at hr
              cases hr
              clear bo ho ba
              go_wp2
              obtain ⟨z0, z1, z2, zf, zg⟩ := end3 (w := w) (v0 := .int .i64 0) (v1 := .int .i64 (b : Int)) (v2 := .int .i64 (c : Int)) q5 (by omega) (by omega) k5 g6
              exact bodyPost_ret (v := .agg #[.int .i64 0, .int .i64 (b : Int), .int .i64 (c : Int)]) (by simp [results, Tryz.results80, go_sem, z0, z1, z2]) rfl ⟨rfl, zf, zg⟩
  · have e0 : (rightsP t st).run D m = ((st, 0, 0), m) := by unfold rightsP; rw [if_pos h0]; rfl
    rw [e0] at hr
    cases hr
    have d0 : ¬ ((st : Int) = 0) := by omega
    unfold wq
    have hf0 := fl_alloc (fl_alloc h (.cells #[.pointer q, .int .i64 (t.b : Int), .int .i64 (t.s : Int)] 126)) (.cells #[.int .i64 (st : Int), .int .i64 0, .int .i64 0] 34)
    clear h
    go_enter Tryz.func80, Tryz.ntmps80
    go_wp2
    exact bodyPost_ret (v := .agg #[.int .i64 (st : Int), .int .i64 0, .int .i64 0]) (by simp [results, Tryz.results80, go_sem]) rfl ⟨rfl, hf0, grown_trans (World.grownBy_alloc _ _ _) (World.grownBy_alloc _ _ _)⟩
end Go.Proofs.YteibjmlimcpaoaaGreatDoor.W

set_option linter.unusedVariables false
set_option linter.unusedSimpArgs false
namespace Go.Proofs.YteibjmlimcpaoaaGreatDoor.W
open Go.RowKit Go.Sort

set_option maxRecDepth 100000 in
set_option maxHeartbeats 1000000 in
theorem rankW (a b : Nat) (w : World) : Calls Tryz.prog 141 #[.int .i64 (a : Int), .int .i64 (b : Int)] w fun e w' => e = .returned (.int .i64 ((rankOf a b : Nat) : Int)) ∧ w' = w := by
  unfold rankOf
  by_cases h3 : a = 3
  · subst h3
    by_cases h10 : b = 10
    · subst h10
      simp only [and_self, if_true]
      go_enter Tryz.func141, Tryz.ntmps141
      go_wp2
      go_ret
      exact ⟨rfl, rfl⟩
    · have d1 : ¬ ((b : Int) = 10) := by omega
      by_cases h1 : b = 1
      · subst h1
        simp only [and_self, if_true, and_false, if_false, show ¬ (1 : Nat) = 10 by omega, show ¬ (3 : Nat) = 0 by omega]
        go_enter Tryz.func141, Tryz.ntmps141
        go_wp2
        go_ret
        exact ⟨rfl, rfl⟩
      · have d2 : ¬ ((b : Int) = 1) := by omega
        simp only [h10, h1, and_false, if_false, show ¬ (3 : Nat) = 0 by omega]
        go_enter Tryz.func141, Tryz.ntmps141
        go_wp2
        go_ret
        exact ⟨rfl, rfl⟩
  · have d1 : ¬ ((a : Int) = 3) := by omega
    by_cases h0 : a = 0
    · subst h0
      simp only [h3, false_and, if_false, if_true]
      go_enter Tryz.func141, Tryz.ntmps141
      go_wp2
      go_ret
      exact ⟨rfl, rfl⟩
    · have d2 : ¬ ((a : Int) = 0) := by omega
      simp only [h3, h0, false_and, if_false]
      go_enter Tryz.func141, Tryz.ntmps141
      go_wp2
      go_ret
      exact ⟨rfl, rfl⟩

theorem ranges_step (D : List UInt8) (bounds : Nat → Pr (Nat × Nat)) (k i count : Nat) (e : Int) (m M : Mt) (a b : Nat) (h : (bounds i).run D m = ((a, b), M)) : (rangesP bounds (k + 1) i count e).run D m = if b < a ∨ (a : Int) ≤ e then (none, M) else (rangesP bounds k (i + 1) (count + (b - a + 1)) (b : Int)).run D M := by
  rw [rangesP, Pr.run_bind, h]
  simp only
  split <;> rfl
theorem small_lt {D : List UInt8} {t : Wn} {twice i : Nat} {m M : Mt} {a b : Nat} (h : (smallP t twice i).run D m = ((a, b), M)) : a < 4294967296 ∧ b < 4294967296 := by
  unfold smallP at h
  rw [Pr.run_bind] at h
  rw [Pr.run_bind] at h
  simp only [Pr.run] at h
  have h1 := two_lt D t (16 + twice + 2 * i) m
  have h2 := two_lt D t (14 + 2 * i) ((t.two (16 + twice + 2 * i)).run D m).2
  have e := congrArg (fun x => x.1) h
  have e1 := congrArg Prod.fst e
  have e2 := congrArg Prod.snd e
  try simp only at e1 e2
  omega
theorem great_lt {D : List UInt8} {t : Wn} {i : Nat} {m M : Mt} {a b : Nat} (h : (greatP t i).run D m = ((a, b), M)) : a < 4294967296 ∧ b < 4294967296 := by
  unfold greatP at h
  rw [Pr.run_bind] at h
  rw [Pr.run_bind] at h
  simp only [Pr.run] at h
  have h1 := four_lt D t (16 + 12 * i) m
  have h2 := four_lt D t (20 + 12 * i) ((t.four (16 + 12 * i)).run D m).2
  have e := congrArg (fun x => x.1) h
  have e1 := congrArg Prod.fst e
  have e2 := congrArg Prod.snd e
  try simp only at e1 e2
  omega
/-- what countRanges answers -/
def rangesV (r : Option (Nat × Int)) : Value := match r with
  | none => .tuple #[.int .i64 0, .int .i64 0, .bool false]
  | some (n, e) => .tuple #[.int .i64 (n : Int), .int .i64 e, .bool true]

set_option maxRecDepth 100000 in
set_option maxHeartbeats 2000000 in
theorem twiceW (p i twice tb vb : Nat) (t : Wn) (m : Mt) (D : List UInt8) (w : World) (hi : i < 65536) (h2 : twice < 65536) (ht : InF t D) (hm : MOk m) (h : FlAt p m D w) (hne : vb ≠ p) (hne2 : tb ≠ p)
    (hv : w.heap[vb]? = some (.cells #[.pointer (some ⟨p, 0, none⟩), .int .i64 (t.b : Int), .int .i64 (t.s : Int)] 126 (0, 0))) (htb : w.heap[tb]? = some (.cells #[.int .i64 (twice : Int)] 3 (0, 0))) (a b : Nat) (M : Mt) (hr : (smallP t twice i).run D m = ((a, b), M)) :
    Calls Tryz.prog 143 #[.int .i64 (i : Int), .pointer (some ⟨vb, 0, none⟩), .pointer (some ⟨tb, 0, none⟩)] w fun e w' => e = .returned (.tuple #[.int .i64 (a : Int), .int .i64 (b : Int)]) ∧ FlAt p M D w' ∧ w.grownBy w' (some p) := by
  obtain ⟨x, m1, h1⟩ : ∃ x y, (t.two (16 + twice + 2 * i)).run D m = (x, y) := ⟨_, _, rfl⟩
  obtain ⟨y, m2, h2'⟩ : ∃ x y, (t.two (14 + 2 * i)).run D m1 = (x, y) := ⟨_, _, rfl⟩
  have hr' : (smallP t twice i).run D m = ((x, y), m2) := by
    unfold smallP
    rw [Pr.run_bind, h1]
    simp only
    rw [Pr.run_bind, h2']
    rfl
  rw [hr'] at hr
  cases hr
  have mk1 : MOk m1 := by have := MOk.run D (t.two (16 + twice + 2 * i)) hm; rw [h1] at this; exact this
  have A := Lib.hid (fun w f => twoW p (16 + twice + 2 * i) t m D w (by omega) ht hm f)
  have B := Lib.hid (fun w f => twoW p (14 + 2 * i) t m1 D w (by omega) ht mk1 f)
  rw [h1] at A
  rw [h2'] at B
  simp only at A B
  obtain ⟨J, hJ⟩ : ∃ J : Int, ((16 + twice + 2 * i : Nat) : Int) = J := ⟨_, rfl⟩
  obtain ⟨L, hL⟩ : ∃ L : Int, ((14 + 2 * i : Nat) : Int) = L := ⟨_, rfl⟩
  have wr1 : IntKind.i64.wrap (2 * (i : Int)) = 2 * (i : Int) := wrapL _ (by omega) (by omega)
  have wr2 : IntKind.i64.wrap (16 + (twice : Int)) = 16 + (twice : Int) := wrapL _ (by omega) (by omega)
  have wr3 : IntKind.i64.wrap J = J := wrapL _ (by omega) (by omega)
  have wr4 : IntKind.i64.wrap L = L := wrapL _ (by omega) (by omega)
  have nJ : 16 + (twice : Int) + 2 * (i : Int) = J := by omega
  have nL : 14 + 2 * (i : Int) = L := by omega
  rw [hJ] at A
  rw [hL] at B
  clear h1 h2' hr' hJ hL
  have y0 := cellsAt hv 0
  have y1 := cellsAt hv 1
  have y2 := cellsAt hv 2
  have z0 := cellsAt htb 0
  simp only [List.getElem?_toArray, List.getElem?_cons_zero, List.getElem?_cons_succ] at y0 y1 y2 z0
  unfold wv at A B
  go_enter Tryz.func143, Tryz.ntmps143
  go_wp2_with fail
  go_region_held3 (fun w' => w'.cell? ⟨vb, 0, none⟩ = some (.pointer (some ⟨p, 0, none⟩)) ∧ w'.cell? ⟨vb, 1, none⟩ = some (.int .i64 (t.b : Int)) ∧ w'.cell? ⟨vb, 2, none⟩ = some (.int .i64 (t.s : Int)) ∧ w'.cell? ⟨tb, 0, none⟩ = some (.int .i64 (twice : Int))) (go_keep) (first
    | (go_at_call_of 95 (Value.int IntKind.i64 L); refine (B.out _ ?_).mono ?_; exact k1; rintro e w2 ⟨rfl, k2, g2⟩; obtain ⟨q20, q21, q22⟩ := box_kept (grown_trans g1 g2) hv hne; have q23 := (cellsAt (grown_at (grown_trans g1 g2) htb hne2) 0).trans rfl)
    | (go_at_call_of 95 (Value.int IntKind.i64 J); refine (A.out _ ?_).mono ?_; exact h; rintro e w1 ⟨rfl, k1, g1⟩; obtain ⟨q10, q11, q12⟩ := box_kept g1 hv hne; have q13 := (cellsAt (grown_at g1 htb hne2) 0).trans rfl))
  all_goals (
    go_wp2
    go_ret2
    first | exact ⟨rfl, k2, grown_drew (grown_trans g1 g2)⟩ | exact ⟨rfl, k2, grown_trans g1 g2⟩)

set_option maxRecDepth 100000 in
set_option maxHeartbeats 2000000 in
theorem greatW (p i vb : Nat) (t : Wn) (m : Mt) (D : List UInt8) (w : World) (hi : i < 65536) (ht : InF t D) (hm : MOk m) (h : FlAt p m D w) (hne : vb ≠ p)
    (hv : w.heap[vb]? = some (.cells #[.pointer (some ⟨p, 0, none⟩), .int .i64 (t.b : Int), .int .i64 (t.s : Int)] 126 (0, 0))) (a b : Nat) (M : Mt) (hr : (greatP t i).run D m = ((a, b), M)) :
    Calls Tryz.prog 144 #[.int .i64 (i : Int), .pointer (some ⟨vb, 0, none⟩)] w fun e w' => e = .returned (.tuple #[.int .i64 (a : Int), .int .i64 (b : Int)]) ∧ FlAt p M D w' ∧ w.grownBy w' (some p) := by
  obtain ⟨x, m1, h1⟩ : ∃ x y, (t.four (16 + 12 * i)).run D m = (x, y) := ⟨_, _, rfl⟩
  obtain ⟨y, m2, h2'⟩ : ∃ x y, (t.four (20 + 12 * i)).run D m1 = (x, y) := ⟨_, _, rfl⟩
  have hr' : (greatP t i).run D m = ((x, y), m2) := by
    unfold greatP
    rw [Pr.run_bind, h1]
    simp only
    rw [Pr.run_bind, h2']
    rfl
  rw [hr'] at hr
  cases hr
  have mk1 : MOk m1 := by have := MOk.run D (t.four (16 + 12 * i)) hm; rw [h1] at this; exact this
  have A := Lib.hid (fun w f => fourW p (16 + 12 * i) t m D w (by omega) ht hm f)
  have B := Lib.hid (fun w f => fourW p (20 + 12 * i) t m1 D w (by omega) ht mk1 f)
  rw [h1] at A
  rw [h2'] at B
  simp only at A B
  obtain ⟨J, hJ⟩ : ∃ J : Int, ((16 + 12 * i : Nat) : Int) = J := ⟨_, rfl⟩
  obtain ⟨L, hL⟩ : ∃ L : Int, ((20 + 12 * i : Nat) : Int) = L := ⟨_, rfl⟩
  have wr1 : IntKind.i64.wrap (12 * (i : Int)) = 12 * (i : Int) := wrapL _ (by omega) (by omega)
  have wr3 : IntKind.i64.wrap J = J := wrapL _ (by omega) (by omega)
  have wr4 : IntKind.i64.wrap L = L := wrapL _ (by omega) (by omega)
  have nJ : 16 + 12 * (i : Int) = J := by omega
  have nL : 20 + 12 * (i : Int) = L := by omega
  rw [hJ] at A
  rw [hL] at B
  clear h1 h2' hr' hJ hL
  have y0 := cellsAt hv 0
  have y1 := cellsAt hv 1
  have y2 := cellsAt hv 2
  simp only [List.getElem?_toArray, List.getElem?_cons_zero, List.getElem?_cons_succ] at y0 y1 y2
  unfold wv at A B
  go_enter Tryz.func144, Tryz.ntmps144
  go_wp2_with fail
  go_region_held3 (fun w' => w'.cell? ⟨vb, 0, none⟩ = some (.pointer (some ⟨p, 0, none⟩)) ∧ w'.cell? ⟨vb, 1, none⟩ = some (.int .i64 (t.b : Int)) ∧ w'.cell? ⟨vb, 2, none⟩ = some (.int .i64 (t.s : Int))) (go_keep) (first
    | (go_at_call_of 128 (Value.int IntKind.i64 L); refine (B.out _ ?_).mono ?_; exact k1; rintro e w2 ⟨rfl, k2, g2⟩; obtain ⟨q20, q21, q22⟩ := box_kept (grown_trans g1 g2) hv hne)
    | (go_at_call_of 128 (Value.int IntKind.i64 J); refine (A.out _ ?_).mono ?_; exact h; rintro e w1 ⟨rfl, k1, g1⟩; obtain ⟨q10, q11, q12⟩ := box_kept g1 hv hne))
  all_goals (
    go_wp2
    go_ret2
    first | exact ⟨rfl, k2, grown_drew (grown_trans g1 g2)⟩ | exact ⟨rfl, k2, grown_trans g1 g2⟩)

set_option maxRecDepth 100000 in
set_option maxHeartbeats 2000000 in
theorem rangesSmallW (p n twice tb vb : Nat) (t : Wn) (m : Mt) (D : List UInt8) (w : World) (h2 : twice < 65536) (hne : vb ≠ p) (hne2 : tb ≠ p) (hv : w.heap[vb]? = some (.cells #[.pointer (some ⟨p, 0, none⟩), .int .i64 (t.b : Int), .int .i64 (t.s : Int)] 126 (0, 0))) (htb : w.heap[tb]? = some (.cells #[.int .i64 (twice : Int)] 3 (0, 0))) (hn : n < 40000) (ht : InF t D) (hm : MOk m) (h : FlAt p m D w) (R : Option (Nat × Int)) (M : Mt) (hr : (rangesP (smallP t twice) n 0 0 (-1)).run D m = (R, M)) :
    Calls Tryz.prog 142 #[.int .i64 (n : Int), .func (.func 143) #[] #[.pointer (some ⟨vb, 0, none⟩), .pointer (some ⟨tb, 0, none⟩)]] w fun e w' => e = .returned (rangesV R) ∧ FlAt p M D w' ∧ w.grownBy w' (some p) := by
  have HR := Lib.hid hr
  have HP := Lib.hid (And.intro hv htb)
  clear hr
  go_enter Tryz.func142, Tryz.ntmps142
  go_wp2
  go_loopw [4, 5, 11] (fun cs es is wr => ∃ (k cnt : Nat) (en : Int) (mm : Mt), cs = .int .i64 (cnt : Int) ∧ es = .int .i64 en ∧ is = .int .i64 (k : Int) ∧ k ≤ n ∧ Hid (cnt ≤ k * 4294967296) ∧ -1 ≤ en ∧ en < 4294967296 ∧ MOk mm ∧ FlAt p mm D wr ∧ w.grownBy wr (some p) ∧ Hid ((rangesP (smallP t twice) (n - k) k cnt en).run D mm = (R, M))) (fun _ _ is _ => n - (intOf is).toNat)
  case atStart => exact ⟨0, 0, -1, m, rfl, rfl, rfl, Nat.zero_le _, Nat.zero_le _, by omega, by omega, hm, h, World.grownBy.refl _ _, HR.out⟩
  case round =>
    obtain ⟨k, cnt, en, mm, rfl, rfl, rfl, hk, hcnt, he0, he1, hmm, hff, hg, H⟩ := hrel
    by_cases hklt : k < n
    · obtain ⟨a, b, m1, hb⟩ : ∃ a b m1, (smallP t twice k).run D mm = ((a, b), m1) := ⟨_, _, _, rfl⟩
      obtain ⟨la, lb⟩ : a < 4294967296 ∧ b < 4294967296 := small_lt hb
      have mk1 : MOk m1 := by have := MOk.run D (smallP t twice k) hmm; rw [hb] at this; exact this
      have A := Lib.hid (twiceW p k twice tb vb t mm D wr (by omega) h2 ht hmm hff hne hne2 (grown_at hg HP.out.1 hne) (grown_at hg HP.out.2 hne2) a b m1 hb)
      have hs := H.out
      obtain ⟨q, hq⟩ : ∃ q, n - k = q + 1 := ⟨n - k - 1, by omega⟩
      rw [hq, ranges_step D _ q k cnt en mm m1 a b hb] at hs
      have hq' : n - (k + 1) = q := by omega
      have ik : (k : Int) < (n : Int) := by omega
      have ik0 : (0 : Int) ≤ (k : Int) := by omega
      clear hb H hq
      by_cases c1 : b < a
      · rw [if_pos (.inl c1)] at hs
        cases hs
        have d1 : (b : Int) < (a : Int) := by omega
        clear la lb
        go_wp2_with (go_at_call 143; refine A.out.mono ?_; rintro e w1 ⟨rfl, k1, g1⟩)
        go_ret3
        exact ⟨rfl, k1, grown_trans hg g1⟩
      · have d1 : ¬ ((b : Int) < (a : Int)) := by omega
        by_cases c2 : (a : Int) ≤ en
        · rw [if_pos (.inr c2)] at hs
          cases hs
          clear la lb
          go_wp2_with (go_at_call 143; refine A.out.mono ?_; rintro e w1 ⟨rfl, k1, g1⟩)
          go_ret3
          exact ⟨rfl, k1, grown_trans hg g1⟩
        · rw [if_neg (by omega), ← hq'] at hs
          have H1 := Lib.hid hs
          clear hs
          have d3 : (0 : Int) ≤ (a : Int) := by omega
          have d4 : (a : Int) ≤ (b : Int) := by omega
          have d5 : (b : Int) < 4294967296 := by omega
          have d6 : (cnt : Int) ≤ 281474976710656 := by have := hcnt.out; omega
          have LL := Lib.hid (And.intro la lb)
          clear la lb
          have d7 : (0 : Int) ≤ (cnt : Int) := by omega
          obtain ⟨z, hz⟩ : ∃ z : Int, (cnt : Int) + ((b : Int) - (a : Int) + 1) = z := ⟨_, rfl⟩
          have HZ := Lib.hid (show ((cnt + (b - a + 1) : Nat) : Int) = z by have := LL.out; omega)
          have v1 : IntKind.i64.wrap ((b : Int) - (a : Int)) = (b : Int) - (a : Int) := wrapL _ (by omega) (by omega)
          have v2 : IntKind.i64.wrap ((b : Int) - (a : Int) + 1) = (b : Int) - (a : Int) + 1 := wrapL _ (by omega) (by omega)
          have v3 : IntKind.i64.wrap z = z := wrapL _ (by omega) (by omega)
          have HK := Lib.hid (show wrap64 ((k : Int) + 1) = (k : Int) + 1 by unfold wrap64; omega)
          have HD := Lib.hid (And.intro d5 (And.intro d6 (And.intro hn hk)))
          clear d5 d6 hn hk he1 h2
          go_wp2_with (go_at_call 143; refine A.out.mono ?_; rintro e w1 ⟨rfl, k1, g1⟩)
          have hm1 := HD.out
          have hm2 := hcnt.out
          have hm3 := LL.out
          refine ⟨⟨k + 1, cnt + (b - a + 1), (b : Int), m1, ?_, rfl, ?_, ?_, ?_, ?_, ?_, mk1, k1, grown_trans hg g1, H1⟩, ?_⟩
          · rw [HZ.out]
          · rw [HK.out]
            go_num
          · omega
          · show _ ≤ _
            omega
          · omega
          · exact hm1.1
          · first
              | (rw [HK.out]; simp only [intOf]; omega)
              | (simp only [intOf, HK.out]; omega)
              | (simp [intOf, HK.out]; omega)
    · have hs := H.out
      rw [show n - k = 0 by omega, rangesP] at hs
      simp only [Pr.run] at hs
      cases hs
      have ik : ¬ ((k : Int) < (n : Int)) := by omega
      go_wp2
      go_ret3
      exact ⟨rfl, hff, hg⟩

set_option maxRecDepth 100000 in
set_option maxHeartbeats 2000000 in
theorem rangesGreatW (p n vb : Nat) (t : Wn) (m : Mt) (D : List UInt8) (w : World) (hne : vb ≠ p) (hv : w.heap[vb]? = some (.cells #[.pointer (some ⟨p, 0, none⟩), .int .i64 (t.b : Int), .int .i64 (t.s : Int)] 126 (0, 0))) (hn : n < 40000) (ht : InF t D) (hm : MOk m) (h : FlAt p m D w) (R : Option (Nat × Int)) (M : Mt) (hr : (rangesP (greatP t) n 0 0 (-1)).run D m = (R, M)) :
    Calls Tryz.prog 142 #[.int .i64 (n : Int), .func (.func 144) #[] #[.pointer (some ⟨vb, 0, none⟩)]] w fun e w' => e = .returned (rangesV R) ∧ FlAt p M D w' ∧ w.grownBy w' (some p) := by
  have HR := Lib.hid hr
  have HP := Lib.hid hv
  clear hr
  go_enter Tryz.func142, Tryz.ntmps142
  go_wp2
  go_loopw [4, 5, 11] (fun cs es is wr => ∃ (k cnt : Nat) (en : Int) (mm : Mt), cs = .int .i64 (cnt : Int) ∧ es = .int .i64 en ∧ is = .int .i64 (k : Int) ∧ k ≤ n ∧ Hid (cnt ≤ k * 4294967296) ∧ -1 ≤ en ∧ en < 4294967296 ∧ MOk mm ∧ FlAt p mm D wr ∧ w.grownBy wr (some p) ∧ Hid ((rangesP (greatP t) (n - k) k cnt en).run D mm = (R, M))) (fun _ _ is _ => n - (intOf is).toNat)
  case atStart => exact ⟨0, 0, -1, m, rfl, rfl, rfl, Nat.zero_le _, Nat.zero_le _, by omega, by omega, hm, h, World.grownBy.refl _ _, HR.out⟩
  case round =>
    obtain ⟨k, cnt, en, mm, rfl, rfl, rfl, hk, hcnt, he0, he1, hmm, hff, hg, H⟩ := hrel
    by_cases hklt : k < n
    · obtain ⟨a, b, m1, hb⟩ : ∃ a b m1, (greatP t k).run D mm = ((a, b), m1) := ⟨_, _, _, rfl⟩
      obtain ⟨la, lb⟩ : a < 4294967296 ∧ b < 4294967296 := great_lt hb
      have mk1 : MOk m1 := by have := MOk.run D (greatP t k) hmm; rw [hb] at this; exact this
      have A := Lib.hid (greatW p k vb t mm D wr (by omega) ht hmm hff hne (grown_at hg HP.out hne) a b m1 hb)
      have hs := H.out
      obtain ⟨q, hq⟩ : ∃ q, n - k = q + 1 := ⟨n - k - 1, by omega⟩
      rw [hq, ranges_step D _ q k cnt en mm m1 a b hb] at hs
      have hq' : n - (k + 1) = q := by omega
      have ik : (k : Int) < (n : Int) := by omega
      have ik0 : (0 : Int) ≤ (k : Int) := by omega
      clear hb H hq
      by_cases c1 : b < a
      · rw [if_pos (.inl c1)] at hs
        cases hs
        have d1 : (b : Int) < (a : Int) := by omega
        clear la lb
        go_wp2_with (go_at_call 144; refine A.out.mono ?_; rintro e w1 ⟨rfl, k1, g1⟩)
        go_ret3
        exact ⟨rfl, k1, grown_trans hg g1⟩
      · have d1 : ¬ ((b : Int) < (a : Int)) := by omega
        by_cases c2 : (a : Int) ≤ en
        · rw [if_pos (.inr c2)] at hs
          cases hs
          clear la lb
          go_wp2_with (go_at_call 144; refine A.out.mono ?_; rintro e w1 ⟨rfl, k1, g1⟩)
          go_ret3
          exact ⟨rfl, k1, grown_trans hg g1⟩
        · rw [if_neg (by omega), ← hq'] at hs
          have H1 := Lib.hid hs
          clear hs
          have d3 : (0 : Int) ≤ (a : Int) := by omega
          have d4 : (a : Int) ≤ (b : Int) := by omega
          have d5 : (b : Int) < 4294967296 := by omega
          have d6 : (cnt : Int) ≤ 281474976710656 := by have := hcnt.out; omega
          have LL := Lib.hid (And.intro la lb)
          clear la lb
          have d7 : (0 : Int) ≤ (cnt : Int) := by omega
          obtain ⟨z, hz⟩ : ∃ z : Int, (cnt : Int) + ((b : Int) - (a : Int) + 1) = z := ⟨_, rfl⟩
          have HZ := Lib.hid (show ((cnt + (b - a + 1) : Nat) : Int) = z by have := LL.out; omega)
          have v1 : IntKind.i64.wrap ((b : Int) - (a : Int)) = (b : Int) - (a : Int) := wrapL _ (by omega) (by omega)
          have v2 : IntKind.i64.wrap ((b : Int) - (a : Int) + 1) = (b : Int) - (a : Int) + 1 := wrapL _ (by omega) (by omega)
          have v3 : IntKind.i64.wrap z = z := wrapL _ (by omega) (by omega)
          have HK := Lib.hid (show wrap64 ((k : Int) + 1) = (k : Int) + 1 by unfold wrap64; omega)
          have HD := Lib.hid (And.intro d5 (And.intro d6 (And.intro hn hk)))
          clear d5 d6 hn hk he1
          go_wp2_with (go_at_call 144; refine A.out.mono ?_; rintro e w1 ⟨rfl, k1, g1⟩)
          have hm1 := HD.out
          have hm2 := hcnt.out
          have hm3 := LL.out
          refine ⟨⟨k + 1, cnt + (b - a + 1), (b : Int), m1, ?_, rfl, ?_, ?_, ?_, ?_, ?_, mk1, k1, grown_trans hg g1, H1⟩, ?_⟩
          · rw [HZ.out]
          · rw [HK.out]
            go_num
          · omega
          · show _ ≤ _
            omega
          · omega
          · exact hm1.1
          · first
              | (rw [HK.out]; simp only [intOf]; omega)
              | (simp only [intOf, HK.out]; omega)
              | (simp [intOf, HK.out]; omega)
    · have hs := H.out
      rw [show n - k = 0 by omega, rangesP] at hs
      simp only [Pr.run] at hs
      cases hs
      have ik : ¬ ((k : Int) < (n : Int)) := by omega
      go_wp2
      go_ret3
      exact ⟨rfl, hff, hg⟩
end Go.Proofs.YteibjmlimcpaoaaGreatDoor.W

set_option linter.unusedVariables false
set_option linter.unusedSimpArgs false
namespace Go.Proofs.YteibjmlimcpaoaaGreatDoor.W
open Go.RowKit Go.Sort

theorem great_run (D : List UInt8) (v : Wn) (m m1 m2 M : Mt) (size ranges : Nat) (R : Option (Nat × Int)) (h1 : (v.four 4).run D m = (size, m1)) (h2 : (v.four 12).run D m1 = (ranges, m2)) :
    (countGreatP v).run D m = if size < 16 ∨ v.s < size ∨ size < 16 + 12 * ranges then ((0, 5), m2) else
      match (rangesP (greatP v) ranges 0 0 (-1)).run D m2 with
      | (none, M) => ((0, 6), M)
      | (some (n, e), M) => if 1114111 < e then ((0, 6), M) else (((n : Int), 0), M) := by
  unfold countGreatP
  rw [Pr.run_bind, h1]
  simp only
  rw [Pr.run_bind, h2]
  simp only
  split
  · rfl
  · rw [Pr.run_bind]
    generalize (rangesP (greatP v) ranges 0 0 (-1)).run D m2 = r
    obtain ⟨r, M⟩ := r
    cases r with
    | none => rfl
    | some x =>
      obtain ⟨n, e⟩ := x
      simp only
      split <;> rfl
theorem small_run (D : List UInt8) (v : Wn) (m m1 m2 M : Mt) (size twice : Nat) (R : Option (Nat × Int)) (h1 : (v.two 2).run D m = (size, m1)) (h2 : (v.two 6).run D m1 = (twice, m2)) :
    (countSmallP v).run D m = if size < 16 ∨ v.s < size then ((0, 5), m2) else if twice = 0 ∨ twice % 2 ≠ 0 then ((0, 6), m2) else if size < 16 + 4 * twice then ((0, 5), m2) else
      match (rangesP (smallP v twice) (twice / 2) 0 0 (-1)).run D m2 with
      | (none, M) => ((0, 6), M)
      | (some (n, e), M) => if e ≠ 65535 then ((0, 6), M) else (((n : Int) - 1, 0), M) := by
  unfold countSmallP
  rw [Pr.run_bind, h1]
  simp only
  rw [Pr.run_bind, h2]
  simp only
  split
  · rfl
  · split
    · rfl
    · split
      · rfl
      · rw [Pr.run_bind]
        generalize (rangesP (smallP v twice) (twice / 2) 0 0 (-1)).run D m2 = r
        obtain ⟨r, M⟩ := r
        cases r with
        | none => rfl
        | some x =>
          obtain ⟨n, e⟩ := x
          simp only
          split <;> rfl

set_option maxRecDepth 100000 in
set_option maxHeartbeats 4000000 in
theorem countGreatW (p : Nat) (t : Wn) (m : Mt) (D : List UInt8) (w : World) (ht : InF t D) (hm : MOk m) (h : FlAt p m D w) (c : Int) (st : Nat) (M : Mt) (hr : (countGreatP t).run D m = ((c, st), M)) :
    Calls Tryz.prog 123 #[wv p t] w fun e w' => e = .returned (.tuple #[.int .i64 c, .int .i64 st]) ∧ FlAt p M D w' ∧ w.grownBy w' (some p) := by
  have hlt := fl_lt h
  have hts := ht.s
  obtain ⟨size, m1, h1⟩ : ∃ x y, (t.four 4).run D m = (x, y) := ⟨_, _, rfl⟩
  obtain ⟨ranges, m2, h2⟩ : ∃ x y, (t.four 12).run D m1 = (x, y) := ⟨_, _, rfl⟩
  rw [great_run D t m m1 m2 M size ranges none h1 h2] at hr
  have mk1 : MOk m1 := by have := MOk.run D (t.four 4) hm; rw [h1] at this; exact this
  have mk2 : MOk m2 := by have := MOk.run D (t.four 12) mk1; rw [h2] at this; exact this
  have lb1 : (size : Int) < 4294967296 := by have := four_lt D t 4 m; rw [h1] at this; simp only at this; omega
  have lb2 : (ranges : Int) < 4294967296 := by have := four_lt D t 12 m1; rw [h2] at this; simp only at this; omega
  obtain ⟨W, hW⟩ : ∃ W, w.alloc (.cells #[.pointer (some ⟨p, 0, none⟩), .int .i64 (t.b : Int), .int .i64 (t.s : Int)] 126) = W := ⟨_, rfl⟩
  have f0 : FlAt p m D W := by rw [← hW]; exact fl_alloc h _
  have r0 : W.heap[w.heap.size]? = some (.cells #[.pointer (some ⟨p, 0, none⟩), .int .i64 (t.b : Int), .int .i64 (t.s : Int)] 126 (0, 0)) := by rw [← hW]; exact new_at _ _
  have g0 : w.grownBy W (some p) := by rw [← hW]; exact World.grownBy_alloc _ _ _
  have A := Lib.hid (fun w f => fourW p 4 t m D w (by omega) ht hm f)
  have B := Lib.hid (fun w f => fourW p 12 t m1 D w (by omega) ht mk1 f)
  rw [h1] at A
  rw [h2] at B
  simp only at A B
  have C := Lib.hid (fun w => tsizeW (some ⟨p, 0, none⟩) t w)
  have y0 := cellsAt r0 0
  have y1 := cellsAt r0 1
  have y2 := cellsAt r0 2
  simp only [List.getElem?_toArray, List.getElem?_cons_zero, List.getElem?_cons_succ] at y0 y1 y2
  unfold wq at C
  unfold wv at A B ⊢
  have hne : w.heap.size ≠ p := by omega
  have HR := Lib.hid hr
  clear h h1 h2 hr
  go_enter Tryz.func123, Tryz.ntmps123
  go_upto_region 1 with fail
  go_cut [4, 5] (fun s4 s5 wx => s4 = .int .i64 (size : Int) ∧ s5 = .int .i64 (ranges : Int) ∧ W.grownBy wx (some p) ∧ FlAt p m2 D wx)
  case first =>
    go_region_held3 (fun w' => w'.cell? ⟨w.heap.size, 0, none⟩ = some (.pointer (some ⟨p, 0, none⟩)) ∧ w'.cell? ⟨w.heap.size, 1, none⟩ = some (.int .i64 (t.b : Int)) ∧ w'.cell? ⟨w.heap.size, 2, none⟩ = some (.int .i64 (t.s : Int))) (go_keep) (first
      | (go_at_call_of 128 (Value.int IntKind.i64 12); refine (B.out _ ?_).mono ?_; exact k1; rintro e w2 ⟨rfl, k2, g2⟩; obtain ⟨q20, q21, q22⟩ := box_kept (grown_trans g1 g2) r0 hne)
      | (go_at_call_of 128 (Value.int IntKind.i64 4); refine (A.out _ ?_).mono ?_; exact f0; rintro e w1 ⟨rfl, k1, g1⟩; obtain ⟨q10, q11, q12⟩ := box_kept g1 r0 hne))
    all_goals (
      go_wp2_with fail
      go_meet
      have a1 := grown_trans g1 g2
      exact ⟨rfl, rfl, ⟨a1.os, a1.tape, a1.output, a1.size, a1.block⟩, k2⟩)
  case rest =>
    obtain ⟨rfl, rfl, gc, kc⟩ := hcut
    have rc := grown_at gc r0 hne
    have gg := grown_trans g0 gc
    clear A B y0 y1 y2 r0 f0 gc g0 hW
    have y0 := cellsAt rc 0
    have y1 := cellsAt rc 1
    have y2 := cellsAt rc 2
    simp only [List.getElem?_toArray, List.getElem?_cons_zero, List.getElem?_cons_succ] at y0 y1 y2
    have hr := HR.out
    have D1 := Lib.hid (C.out wc)
    by_cases e1 : size < 16
    · rw [if_pos (.inl e1)] at hr
      cases hr
      have d1 : (size : Int) < 16 := by omega
      go_wp2
      go_ret2
      exact ⟨rfl, kc, gg⟩
    · have d1 : ¬ ((size : Int) < 16) := by omega
      by_cases e2 : t.s < size
      · rw [if_pos (.inr (.inl e2))] at hr
        cases hr
        have d2 : (t.s : Int) < (size : Int) := by omega
        go_wp2_with (go_at_call 91; refine D1.out.mono ?_; rintro e w3 ⟨rfl, hb3⟩)
        go_ret2
        exact ⟨rfl, fl_below kc hb3, grown_trans gg (grown_below _ hb3)⟩
      · have d2 : ¬ ((t.s : Int) < (size : Int)) := by omega
        by_cases e3 : size < 16 + 12 * ranges
        · rw [if_pos (.inr (.inr e3))] at hr
          cases hr
          have d3 : (size : Int) < 16 + 12 * (ranges : Int) := by omega
          have v1 : IntKind.i64.wrap (12 * (ranges : Int)) = 12 * (ranges : Int) := wrapL _ (by omega) (by omega)
          have v2 : IntKind.i64.wrap (16 + 12 * (ranges : Int)) = 16 + 12 * (ranges : Int) := wrapL _ (by omega) (by omega)
          go_wp2_with (go_at_call 91; refine D1.out.mono ?_; rintro e w3 ⟨rfl, hb3⟩)
          go_ret2
          exact ⟨rfl, fl_below kc hb3, grown_trans gg (grown_below _ hb3)⟩
        · rw [if_neg (by omega)] at hr
          have d3 : ¬ ((size : Int) < 16 + 12 * (ranges : Int)) := by omega
          have d4 : (ranges : Int) ≤ 200 := by omega
          obtain ⟨R, M', hR⟩ : ∃ R M', (rangesP (greatP t) ranges 0 0 (-1)).run D m2 = (R, M') := ⟨_, _, rfl⟩
          rw [hR] at hr
          have E := Lib.hid (fun wz (f : FlAt p m2 D wz) v => rangesGreatW p ranges w.heap.size t m2 D wz hne v (by omega) ht mk2 f R M' hR)
          clear lb1 lb2 hR e1 e2 e3
          cases R with
          | none =>
            simp only at hr
            cases hr
            unfold rangesV at E
            simp only at E
            go_wp2_with (first | (go_at_call 91; refine D1.out.mono ?_; rintro e w3 ⟨rfl, hb3⟩) | (go_at_call 142; refine (E.out w3 (fl_below kc hb3) (at_below rc hb3)).mono ?_; rintro e w4 ⟨rfl, k4, g4⟩))
            go_ret2
            exact ⟨rfl, k4, grown_trans (grown_trans gg (grown_below _ hb3)) g4⟩
          | some x =>
            obtain ⟨n, en⟩ := x
            simp only at hr
            unfold rangesV at E
            simp only at E
            by_cases e5 : 1114111 < en
            · rw [if_pos e5] at hr
              cases hr
              go_wp2_with (first | (go_at_call 91; refine D1.out.mono ?_; rintro e w3 ⟨rfl, hb3⟩) | (go_at_call 142; refine (E.out w3 (fl_below kc hb3) (at_below rc hb3)).mono ?_; rintro e w4 ⟨rfl, k4, g4⟩))
              go_ret2
              exact ⟨rfl, k4, grown_trans (grown_trans gg (grown_below _ hb3)) g4⟩
            · rw [if_neg e5] at hr
              cases hr
              go_wp2_with (first | (go_at_call 91; refine D1.out.mono ?_; rintro e w3 ⟨rfl, hb3⟩) | (go_at_call 142; refine (E.out w3 (fl_below kc hb3) (at_below rc hb3)).mono ?_; rintro e w4 ⟨rfl, k4, g4⟩))
              go_ret2
              exact ⟨rfl, k4, grown_trans (grown_trans gg (grown_below _ hb3)) g4⟩
end Go.Proofs.YteibjmlimcpaoaaGreatDoor.W

set_option linter.unusedVariables false
set_option linter.unusedSimpArgs false
namespace Go.Proofs.YteibjmlimcpaoaaGreatDoor.W
open Go.RowKit Go.Sort

theorem ranges_le (D : List UInt8) (bounds : Nat → Pr (Nat × Nat)) (hb : ∀ (i : Nat) (m : Mt) (a b : Nat) (M : Mt), (bounds i).run D m = ((a, b), M) → a < 4294967296 ∧ b < 4294967296) : ∀ (k i count : Nat) (e : Int) (m : Mt) (R : Option (Nat × Int)) (M : Mt), (rangesP bounds k i count e).run D m = (R, M) → ∀ n e', R = some (n, e') → n ≤ count + k * 4294967296
  | 0, i, count, e, m, R, M, h, n, e', hR => by
    rw [rangesP] at h
    simp only [Pr.run] at h
    have := (Prod.mk.inj h).1
    rw [hR] at this
    have := Option.some.inj this
    have := (Prod.mk.inj this).1
    omega
  | k + 1, i, count, e, m, R, M, h, n, e', hR => by
    obtain ⟨a, b, m1, hab⟩ : ∃ a b m1, (bounds i).run D m = ((a, b), m1) := ⟨_, _, _, rfl⟩
    have hl := hb i m a b m1 hab
    rw [ranges_step D bounds k i count e m m1 a b hab] at h
    split at h
    · have := (Prod.mk.inj h).1
      rw [hR] at this
      cases this
    · have := ranges_le D bounds hb k (i + 1) _ _ m1 R M h n e' hR
      omega
/-- where a statement stands that makes a number's box and reads numbers: has its block been laid -/
structure Ix (W : World) (p : Nat) (m : Mt) (D : List UInt8) (k : Option Nat) (w : World) : Prop where
  g : W.grownBy w (some p)
  f : FlAt p m D w
  b : ∀ j, k = some j → W.heap.size ≤ j ∧ w.heap[j]? = some (.cells #[.int .i64 0] 3 (0, 0))
section
variable {W w w' : World} {p : Nat} {m m' : Mt} {D : List UInt8} {k : Option Nat}
theorem Ix.start (h : FlAt p m D W) : Ix W p m D none W := ⟨World.grownBy.refl _ _, h, fun _ e => by cases e⟩
theorem Ix.drew (h : Ix W p m D k w) : Ix W p m D k w.drew := ⟨⟨h.g.os, h.g.tape, h.g.output, h.g.size, h.g.block⟩, h.f, h.b⟩
theorem Ix.alloc (h : Ix W p m D none w) : Ix W p m D (some w.heap.size) (w.alloc (.cells #[.int .i64 0] 3)) :=
  ⟨grown_trans h.g (World.grownBy_alloc _ _ _), fl_alloc h.f _, fun j e => by cases e; exact ⟨h.g.size, new_at _ _⟩⟩
theorem Ix.allocD (h : Ix W p m D none w) : Ix W p m D (some w.heap.size) (w.drew.alloc (.cells #[.int .i64 0] 3)) := h.drew.alloc
theorem Ix.call (h : Ix W p m D k w) (hp : p < W.heap.size) (g : w.grownBy w' (some p)) (f : FlAt p m' D w') : Ix W p m' D k w' :=
  ⟨grown_trans h.g g, f, fun j e => ⟨(h.b j e).1, grown_at g (h.b j e).2 (by have := (h.b j e).1; omega)⟩⟩
theorem Ix.set {kk : Nat} (h : Ix W p m D (some kk) w) (hp : p < W.heap.size) (v : Value) : W.grownBy (w.setCell ⟨kk, 0, none⟩ v) (some p) ∧ FlAt p m D (w.setCell ⟨kk, 0, none⟩ v) ∧ (w.setCell ⟨kk, 0, none⟩ v).heap[kk]? = some (.cells #[v] 3 (0, 0)) := by
  obtain ⟨hk, hb⟩ := h.b kk rfl
  have gs : w.grownBy (w.setCell ⟨kk, 0, none⟩ v) (some kk) := grown_set (World.grownBy.refl _ _) _ _
  exact ⟨grown_row h.g gs (fun j hj => by cases hj; exact hk), grown_at gs h.f (by omega), setCell_row hb v⟩
end

set_option maxRecDepth 100000 in
set_option maxHeartbeats 4000000 in
theorem countSmallW (p : Nat) (t : Wn) (m : Mt) (D : List UInt8) (w : World) (ht : InF t D) (hm : MOk m) (h : FlAt p m D w) (c : Int) (st : Nat) (M : Mt) (hr : (countSmallP t).run D m = ((c, st), M)) :
    Calls Tryz.prog 122 #[wv p t] w fun e w' => e = .returned (.tuple #[.int .i64 c, .int .i64 st]) ∧ FlAt p M D w' ∧ w.grownBy w' (some p) := by
  have hlt := fl_lt h
  have hts := ht.s
  obtain ⟨size, m1, h1⟩ : ∃ x y, (t.two 2).run D m = (x, y) := ⟨_, _, rfl⟩
  obtain ⟨twice, m2, h2⟩ : ∃ x y, (t.two 6).run D m1 = (x, y) := ⟨_, _, rfl⟩
  rw [small_run D t m m1 m2 M size twice none h1 h2] at hr
  have mk1 : MOk m1 := by have := MOk.run D (t.two 2) hm; rw [h1] at this; exact this
  have mk2 : MOk m2 := by have := MOk.run D (t.two 6) mk1; rw [h2] at this; exact this
  have lb2 := Lib.hid (show twice < 65536 by have := two_lt D t 6 m1; rw [h2] at this; exact this)
  obtain ⟨W, hW⟩ : ∃ W, w.alloc (.cells #[.pointer (some ⟨p, 0, none⟩), .int .i64 (t.b : Int), .int .i64 (t.s : Int)] 126) = W := ⟨_, rfl⟩
  have f0 : FlAt p m D W := by rw [← hW]; exact fl_alloc h _
  have r0 : W.heap[w.heap.size]? = some (.cells #[.pointer (some ⟨p, 0, none⟩), .int .i64 (t.b : Int), .int .i64 (t.s : Int)] 126 (0, 0)) := by rw [← hW]; exact new_at _ _
  have g0 : w.grownBy W (some p) := by rw [← hW]; exact World.grownBy_alloc _ _ _
  have A := Lib.hid (fun w f => twoW p 2 t m D w (by omega) ht hm f)
  have B := Lib.hid (fun w f => twoW p 6 t m1 D w (by omega) ht mk1 f)
  rw [h1] at A
  rw [h2] at B
  simp only at A B
  have C := Lib.hid (fun w => tsizeW (some ⟨p, 0, none⟩) t w)
  have y0 := cellsAt r0 0
  have y1 := cellsAt r0 1
  have y2 := cellsAt r0 2
  simp only [List.getElem?_toArray, List.getElem?_cons_zero, List.getElem?_cons_succ] at y0 y1 y2
  unfold wq at C
  unfold wv at A B ⊢
  have hne : w.heap.size ≠ p := by omega
  have HR := Lib.hid hr
  clear h h1 h2 hr
  go_enter Tryz.func122, Tryz.ntmps122
  go_upto_region 1 with fail
  go_cut [4, 5] (fun s4 s5 wx => ∃ k : Nat, s4 = .int .i64 (size : Int) ∧ s5 = .pointer (some ⟨k, 0, none⟩) ∧ W.heap.size ≤ k ∧ W.grownBy wx (some p) ∧ FlAt p m2 D wx ∧ wx.heap[k]? = some (.cells #[.int .i64 (twice : Int)] 3 (0, 0)))
  case first =>
    have hpW : p < W.heap.size := fl_lt f0
    have N0 := Ix.start f0
    have sW4 : W.heap.size = w.heap.size + 1 := by rw [← hW]; simp
    have hne8 : ∀ j, W.heap.size ≤ j → ¬ (j = w.heap.size) := fun j a b => by omega
    have hne9 : ∀ j, W.heap.size ≤ j → ¬ (w.heap.size = j) := fun j a b => by omega
    clear sW4
    go_region_held3 (fun w' => w'.cell? ⟨w.heap.size, 0, none⟩ = some (.pointer (some ⟨p, 0, none⟩)) ∧ w'.cell? ⟨w.heap.size, 1, none⟩ = some (.int .i64 (t.b : Int)) ∧ w'.cell? ⟨w.heap.size, 2, none⟩ = some (.int .i64 (t.s : Int))) (go_keep) (first
      | (go_at_call_of 95 (Value.int IntKind.i64 6); refine (B.out _ ?_).mono ?_; exact (N1).f; rintro e w2 ⟨rfl, k2, g2⟩; have N2 := (N1).call hpW g2 k2; obtain ⟨q20, q21, q22⟩ := box_kept N2.g r0 hne; try (have hk9 := (N2.b _ rfl).1; have hk8 := hne8 _ hk9; have hk7 := hne9 _ hk9; have zz := (N2.b _ rfl).2; have c0 := cellsAt zz 0; simp only [List.getElem?_toArray, List.getElem?_cons_zero, List.getElem?_cons_succ] at c0; have f9 := frozenAt zz 0))
      | (go_at_call_of 95 (Value.int IntKind.i64 6); refine (B.out _ ?_).mono ?_; exact (N1.alloc).f; rintro e w2 ⟨rfl, k2, g2⟩; have N2 := (N1.alloc).call hpW g2 k2; obtain ⟨q20, q21, q22⟩ := box_kept N2.g r0 hne; try (have hk9 := (N2.b _ rfl).1; have hk8 := hne8 _ hk9; have hk7 := hne9 _ hk9; have zz := (N2.b _ rfl).2; have c0 := cellsAt zz 0; simp only [List.getElem?_toArray, List.getElem?_cons_zero, List.getElem?_cons_succ] at c0; have f9 := frozenAt zz 0))
      | (go_at_call_of 95 (Value.int IntKind.i64 2); refine (A.out _ ?_).mono ?_; exact (N0.drew).f; rintro e w1 ⟨rfl, k1, g1⟩; have N1 := (N0.drew).call hpW g1 k1; obtain ⟨q10, q11, q12⟩ := box_kept N1.g r0 hne; skip)
      | (go_at_call_of 95 (Value.int IntKind.i64 2); refine (A.out _ ?_).mono ?_; exact (N0.allocD).f; rintro e w1 ⟨rfl, k1, g1⟩; have N1 := (N0.allocD).call hpW g1 k1; obtain ⟨q10, q11, q12⟩ := box_kept N1.g r0 hne; skip)
      | (go_at_call_of 95 (Value.int IntKind.i64 2); refine (A.out _ ?_).mono ?_; exact (N0).f; rintro e w1 ⟨rfl, k1, g1⟩; have N1 := (N0).call hpW g1 k1; obtain ⟨q10, q11, q12⟩ := box_kept N1.g r0 hne; skip)
      | (go_at_call_of 95 (Value.int IntKind.i64 2); refine (A.out _ ?_).mono ?_; exact (N0.alloc).f; rintro e w1 ⟨rfl, k1, g1⟩; have N1 := (N0.alloc).call hpW g1 k1; obtain ⟨q10, q11, q12⟩ := box_kept N1.g r0 hne; skip))
    all_goals (
      go_wp2_with fail
      go_meet
      first
        | exact ⟨_, rfl, rfl, N2.g.size, grown_trans N2.g (World.grownBy_alloc _ _ _), fl_alloc N2.f _, new_at _ _⟩
        | (obtain ⟨a1, a2, a3⟩ := N2.set hpW (.int .i64 (twice : Int)); exact ⟨_, rfl, rfl, (N2.b _ rfl).1, ⟨a1.os, a1.tape, a1.output, a1.size, a1.block⟩, a2, a3⟩)
        | (have a1 := grown_trans N2.g (World.grownBy_alloc w2 (.cells #[.int .i64 (twice : Int)] 3) (some p)); exact ⟨_, rfl, rfl, N2.g.size, ⟨a1.os, a1.tape, a1.output, a1.size, a1.block⟩, fl_alloc N2.f _, new_at _ _⟩))
  case rest =>
    obtain ⟨kk, rfl, rfl, hkk, gc, kc, nk⟩ := hcut
    have rc := grown_at gc r0 hne
    have gg := grown_trans g0 gc
    have sW4 : W.heap.size = w.heap.size + 1 := by rw [← hW]; simp
    have hkp : kk ≠ p := by omega
    clear A B y0 y1 y2 r0 f0 gc g0 hW
    have y0 := cellsAt rc 0
    have y1 := cellsAt rc 1
    have y2 := cellsAt rc 2
    have z0 := cellsAt nk 0
    simp only [List.getElem?_toArray, List.getElem?_cons_zero, List.getElem?_cons_succ] at y0 y1 y2 z0
    have hr := HR.out
    have D1 := Lib.hid (C.out wc)
    by_cases e1 : size < 16
    · rw [if_pos (.inl e1)] at hr
      cases hr
      have d1 : (size : Int) < 16 := by omega
      go_wp2
      go_ret2
      exact ⟨rfl, kc, gg⟩
    · have d1 : ¬ ((size : Int) < 16) := by omega
      by_cases e2 : t.s < size
      · rw [if_pos (.inr e2)] at hr
        cases hr
        have d2 : (t.s : Int) < (size : Int) := by omega
        go_wp2_with (go_at_call 91; refine D1.out.mono ?_; rintro e w3 ⟨rfl, hb3⟩)
        go_ret2
        exact ⟨rfl, fl_below kc hb3, grown_trans gg (grown_below _ hb3)⟩
      · have d2 : ¬ ((t.s : Int) < (size : Int)) := by omega
        rw [if_neg (by omega)] at hr
        go_wp2_with (go_at_call 91; refine D1.out.mono ?_; rintro e w3 ⟨rfl, hb3⟩; refine Hid.out ?_)
        have k3 := fl_below kc hb3
        have g3 := grown_trans gg (grown_below (some p) hb3)
        have rc3 := at_below rc hb3
        have nk3 := at_below nk hb3
        clear D1 y0 y1 y2 z0 kc gg rc nk hb3
        have z0 := cellsAt nk3 0
        simp only [List.getElem?_toArray, List.getElem?_cons_zero, List.getElem?_cons_succ] at z0
        by_cases e3 : twice = 0
        · subst e3
          rw [if_pos (.inl rfl)] at hr
          cases hr
          refine Lib.hid ?_
          go_wp2
          go_ret2
          exact ⟨rfl, k3, g3⟩
        · have d3 : ¬ ((twice : Int) = 0) := by omega
          have d30 : (0 : Int) ≤ (twice : Int) := by omega
          by_cases e4 : twice % 2 ≠ 0
          · rw [if_pos (.inr e4)] at hr
            cases hr
            have d4 : (twice : Int) % 2 = 1 := by omega
            refine Lib.hid ?_
            go_wp2
            go_ret2
            exact ⟨rfl, k3, g3⟩
          · rw [if_neg (by omega)] at hr
            have d4 : (twice : Int) % 2 = 0 := by omega
            by_cases e5 : size < 16 + 4 * twice
            · rw [if_pos e5] at hr
              cases hr
              have d5 : (size : Int) < 16 + 4 * (twice : Int) := by omega
              have v1 : IntKind.i64.wrap (4 * (twice : Int)) = 4 * (twice : Int) := wrapL _ (by omega) (by have := lb2.out; omega)
              have v2 : IntKind.i64.wrap (16 + 4 * (twice : Int)) = 16 + 4 * (twice : Int) := wrapL _ (by omega) (by have := lb2.out; omega)
              refine Lib.hid ?_
              go_wp2
              go_ret2
              exact ⟨rfl, k3, g3⟩
            · rw [if_neg e5] at hr
              have d5 : ¬ ((size : Int) < 16 + 4 * (twice : Int)) := by omega
              have d6 : (twice : Int) ≤ 600 := by omega
              obtain ⟨R, M', hR⟩ : ∃ R M', (rangesP (smallP t twice) (twice / 2) 0 0 (-1)).run D m2 = (R, M') := ⟨_, _, rfl⟩
              rw [hR] at hr
              have E := Lib.hid (rangesSmallW p (twice / 2) twice kk w.heap.size t m2 D w3 lb2.out hne hkp rc3 nk3 (by omega) ht mk2 k3 R M' hR)
              have hq : ((twice / 2 : Nat) : Int) = (twice : Int) / 2 := by omega
              rw [hq] at E
              have HB := Lib.hid (ranges_le D (smallP t twice) (fun i m a b M h => small_lt h) (twice / 2) 0 0 (-1) m2 R M' hR)
              clear hR e1 e2 e3 e4 e5 hq
              cases R with
              | none =>
                simp only at hr
                cases hr
                unfold rangesV at E
                simp only at E
                refine Lib.hid ?_
                go_wp2_with (go_at_call 142; refine E.out.mono ?_; rintro e w4 ⟨rfl, k4, g4⟩)
                go_ret2
                exact ⟨rfl, k4, grown_trans g3 g4⟩
              | some x =>
                obtain ⟨n, en⟩ := x
                simp only at hr
                unfold rangesV at E
                simp only at E
                by_cases e6 : en ≠ 65535
                · rw [if_pos e6] at hr
                  cases hr
                  obtain ⟨Q, hQ⟩ : ∃ Q : Int, Q = 65535 := ⟨_, rfl⟩
                  refine Lib.hid ?_
                  go_wp2_with (go_at_call 142; refine E.out.mono ?_; rintro e w4 ⟨rfl, k4, g4⟩)
                  go_ret2
                  exact ⟨rfl, k4, grown_trans g3 g4⟩
                · rw [if_neg e6] at hr
                  have HNB := Lib.hid (show (n : Int) ≤ 281474976710656 by have := HB.out n en rfl; omega)
                  have e7 : en = 65535 := by omega
                  cases hr
                  subst e7
                  clear e6
                  have hn1 : (n : Int) ≤ 281474976710656 := HNB.out
                  have v9 : IntKind.i64.wrap ((n : Int) - 1) = (n : Int) - 1 := by rw [IntKind.wrap_i64]; omega
                  clear hn1
                  refine Lib.hid ?_
                  go_wp2_with (go_at_call 142; refine E.out.mono ?_; rintro e w4 ⟨rfl, k4, g4⟩)
                  go_ret2
                  exact ⟨rfl, k4, grown_trans g3 g4⟩
end Go.Proofs.YteibjmlimcpaoaaGreatDoor.W

set_option linter.unusedVariables false
set_option linter.unusedSimpArgs false
namespace Go.Proofs.YteibjmlimcpaoaaGreatDoor.W
open Go.RowKit Go.Sort

/-- where a statement stands that makes a window's box: has its block been laid -/
structure Bx (W : World) (k : Option Nat) (w : World) : Prop where
  g : Below W.heap.size W w
  b : ∀ j, k = some j → W.heap.size ≤ j ∧ w.heap[j]? = some (.cells #[.pointer none, .int .i64 0, .int .i64 0] 126 (0, 0))
section
variable {W w w' : World} {k : Option Nat}
theorem Bx.start : Bx W none W := ⟨Below.refl _ _, fun _ e => by cases e⟩
theorem Bx.drew (h : Bx W k w) : Bx W k w.drew := ⟨h.g.drew, h.b⟩
theorem Bx.alloc (h : Bx W none w) : Bx W (some w.heap.size) (w.alloc (.cells #[.pointer none, .int .i64 0, .int .i64 0] 126)) :=
  ⟨h.g.alloc h.g.size _, fun j e => by cases e; exact ⟨h.g.size, new_at _ _⟩⟩
theorem Bx.allocD (h : Bx W none w) : Bx W (some w.heap.size) (w.drew.alloc (.cells #[.pointer none, .int .i64 0, .int .i64 0] 126)) := h.drew.alloc
theorem Bx.call (h : Bx W k w) (g : Below w.heap.size w w') : Bx W k w' :=
  ⟨h.g.trans (g.mono h.g.size), fun j e => ⟨(h.b j e).1, at_below (h.b j e).2 g⟩⟩
theorem Bx.set {kk : Nat} (h : Bx W (some kk) w) (v0 v1 v2 : Value) : Below W.heap.size W (((w.setCell ⟨kk, 0, none⟩ v0).setCell ⟨kk, 1, none⟩ v1).setCell ⟨kk, 2, none⟩ v2) ∧ (((w.setCell ⟨kk, 0, none⟩ v0).setCell ⟨kk, 1, none⟩ v1).setCell ⟨kk, 2, none⟩ v2).heap[kk]? = some (.cells #[v0, v1, v2] 126 (0, 0)) := by
  obtain ⟨hk, hb⟩ := h.b kk rfl
  exact ⟨((h.g.setCell hk _).setCell hk _).setCell hk _, setCell_row (i := 2) (setCell_row (i := 1) (setCell_row (i := 0) hb v0) v1) v2⟩
end

theorem parts_step (D : List UInt8) (t : Wn) (k i best begin : Nat) (m m1 m2 : Mt) (a b : Nat) (h1 : ((t.cut (4 + 8 * i) 8).two 0).run D m = (a, m1)) (h2 : ((t.cut (4 + 8 * i) 8).two 2).run D m1 = (b, m2)) :
    (partsP t (k + 1) i best begin).run D m = if rankOf a b < best then (partsP t k (i + 1) (rankOf a b) (((t.cut (4 + 8 * i) 8).four 4).run D m2).1).run D (((t.cut (4 + 8 * i) 8).four 4).run D m2).2 else (partsP t k (i + 1) best begin).run D m2 := by
  rw [partsP, Pr.run_bind, h1]
  simp only
  rw [Pr.run_bind, h2]
  simp only
  split
  · rw [Pr.run_bind]
  · rfl
theorem part_run (D : List UInt8) (t : Wn) (m m1 m2 : Mt) (c st best begin : Nat) (h1 : (countP t 4 8).run D m = ((c, st), m1)) (h2 : (partsP t c 0 3 0).run D m1 = ((best, begin), m2)) :
    (partP t).run D m = if st ≠ 0 then ((⟨0, 0⟩, st), m1) else if best = 3 then ((⟨0, 0⟩, 7), m2) else if (t.cut begin t.s).s < 2 then ((⟨0, 0⟩, 5), m2) else ((t.cut begin t.s, 0), m2) := by
  unfold partP
  rw [Pr.run_bind, h1]
  simp only
  split
  · rfl
  · rw [Pr.run_bind, h2]
    simp only
    split
    · rfl
    · split <;> rfl
theorem count_le (D : List UInt8) (t : Wn) (m : Mt) (c st : Nat) (M : Mt) (h : (countP t 4 8).run D m = ((c, st), M)) : c ≤ 20 := by
  rw [count_run] at h
  split at h
  · have := (Prod.mk.inj (Prod.mk.inj h).1).1; omega
  · split at h
    · have := (Prod.mk.inj (Prod.mk.inj h).1).1; omega
    · split at h
      · have := (Prod.mk.inj (Prod.mk.inj h).1).1; omega
      · split at h
        · have := (Prod.mk.inj (Prod.mk.inj h).1).1; omega
        · have := (Prod.mk.inj (Prod.mk.inj h).1).1; omega
theorem rank_le (a b : Nat) : rankOf a b ≤ 3 := by
  unfold rankOf
  repeat' split
  all_goals omega

set_option maxRecDepth 100000 in
set_option maxHeartbeats 4000000 in
theorem partW (p : Nat) (t : Wn) (m : Mt) (D : List UInt8) (w : World) (ht : InF t D) (hm : MOk m) (h : FlAt p m D w) (v : Wn) (st : Nat) (M : Mt) (hr : (partP t).run D m = ((v, st), M)) :
    Calls Tryz.prog 121 #[wv p t] w fun e w' => e = .returned (.tuple #[wq (if st = 0 then some ⟨p, 0, none⟩ else none) v, .int .i64 st]) ∧ FlAt p M D w' ∧ w.grownBy w' (some p) := by
  have hlt := fl_lt h
  have hts := ht.s
  obtain ⟨c, s1, m1, h1⟩ : ∃ c s m1, (countP t 4 8).run D m = ((c, s), m1) := ⟨_, _, _, rfl⟩
  obtain ⟨best, begin, m2, h2⟩ : ∃ b s m2, (partsP t c 0 3 0).run D m1 = ((b, s), m2) := ⟨_, _, _, rfl⟩
  rw [part_run D t m m1 m2 c s1 best begin h1 h2] at hr
  have hc20 := count_le D t m c s1 m1 h1
  have mk1 : MOk m1 := by have := MOk.run D (countP t 4 8) hm; rw [h1] at this; exact this
  obtain ⟨W, hW⟩ : ∃ W, (w.alloc (.cells #[.pointer (some ⟨p, 0, none⟩), .int .i64 (t.b : Int), .int .i64 (t.s : Int)] 126)).alloc (.cells #[.pointer none, .int .i64 0, .int .i64 0] 126) = W := ⟨_, rfl⟩
  have f0 : FlAt p m D W := by rw [← hW]; exact fl_alloc (fl_alloc h _) _
  have r0 : W.heap[w.heap.size]? = some (.cells #[.pointer (some ⟨p, 0, none⟩), .int .i64 (t.b : Int), .int .i64 (t.s : Int)] 126 (0, 0)) := by rw [← hW]; exact at_alloc (new_at _ _)
  have r1 : W.heap[w.heap.size + 1]? = some (.cells #[.pointer none, .int .i64 0, .int .i64 0] 126 (0, 0)) := by
    rw [← hW]
    have := new_at (w.alloc (.cells #[.pointer (some ⟨p, 0, none⟩), .int .i64 (t.b : Int), .int .i64 (t.s : Int)] 126)) (.cells #[.pointer none, .int .i64 0, .int .i64 0] 126)
    simpa using this
  have g0 : w.grownBy W (some p) := by rw [← hW]; exact grown_trans (World.grownBy_alloc _ _ _) (World.grownBy_alloc _ _ _)
  have A := Lib.hid (countW p 4 8 t m D W (by omega) (by omega) ht hm f0 c s1 m1 h1)
  have y0 := cellsAt r0 0
  have y1 := cellsAt r0 1
  have y2 := cellsAt r0 2
  simp only [List.getElem?_toArray, List.getElem?_cons_zero, List.getElem?_cons_succ] at y0 y1 y2
  unfold wv at A ⊢
  have hne : w.heap.size ≠ p := by omega
  have hne1 : w.heap.size + 1 ≠ p := by omega
  have HR := Lib.hid hr
  have H2 := Lib.hid h2
  have H1 := Lib.hid h1
  clear h h1 h2 hr
  go_enter Tryz.func121, Tryz.ntmps121
  go_wp2_with (go_at_call 98; refine A.out.mono ?_; rintro e w1 ⟨rfl, k1, g1⟩; refine Hid.out ?_)
  have q0 := grown_at g1 r0 hne
  have q1 := grown_at g1 r1 hne1
  have gg := grown_trans g0 g1
  clear A y0 y1 y2 hW f0 r0 r1 g0 g1
  by_cases e1 : s1 ≠ 0
  · have hr := HR.out
    rw [if_pos e1] at hr
    cases hr
    have d1 : ¬ ((st : Int) = 0) := by omega
    clear HR H2 H1
    have u0 := cellsAt q1 0
    have u1 := cellsAt q1 1
    have u2 := cellsAt q1 2
    have fz0 := frozenAt q1 0
    have fz1 := frozenAt q1 1
    have fz2 := frozenAt q1 2
    simp only [List.getElem?_toArray, List.getElem?_cons_zero, List.getElem?_cons_succ] at u0 u1 u2
    refine Lib.hid ?_
    go_wp2
    obtain ⟨z0, z1, z2, zf, zg⟩ := end3 (w := w) (v0 := .pointer none) (v1 := .int .i64 0) (v2 := .int .i64 0) q1 (by omega) (by omega) k1 gg
    exact bodyPost_ret (v := .tuple #[.agg #[.pointer none, .int .i64 0, .int .i64 0], .int .i64 (st : Int)]) (by simp [results, Tryz.results121, go_sem, z0, z1, z2]) rfl ⟨by first | rfl | (rw [if_neg e1]; rfl), zf, zg⟩
  · have hs1 : s1 = 0 := by omega
    subst hs1
    refine Lib.hid ?_
    go_wp2_with fail
    clear H1
    go_loopw [6, 7, 22] (fun bs gs is wr => ∃ (k bst bgn : Nat) (mm : Mt), bs = .int .i64 (bst : Int) ∧ gs = .int .i64 (bgn : Int) ∧ is = .int .i64 (k : Int) ∧ k ≤ c ∧ bst ≤ 3 ∧ Hid (bgn < 4294967296) ∧ MOk mm ∧ FlAt p mm D wr ∧ w1.grownBy wr (some p) ∧ Hid ((partsP t (c - k) k bst bgn).run D mm = ((best, begin), m2))) (fun _ _ is _ => c - (intOf is).toNat)
    case atStart => exact ⟨0, 3, 0, m1, rfl, rfl, rfl, Nat.zero_le _, by omega, (by show (0 : Nat) < 4294967296; omega), mk1, k1, World.grownBy.refl _ _, H2.out⟩
    case round =>
      obtain ⟨k, bst, bgn, mm, rfl, rfl, rfl, hk, hb3, hbg, hmm, hff, hg, H⟩ := hrel
      have c0 := grown_at hg q0 hne
      by_cases hklt : k < c
      · have hin := cut_in ht (4 + 8 * k) 8
        obtain ⟨a, ma, ha⟩ : ∃ x y, ((t.cut (4 + 8 * k) 8).two 0).run D mm = (x, y) := ⟨_, _, rfl⟩
        obtain ⟨b, mb, hb⟩ : ∃ x y, ((t.cut (4 + 8 * k) 8).two 2).run D ma = (x, y) := ⟨_, _, rfl⟩
        obtain ⟨fo, mc, hc⟩ : ∃ x y, ((t.cut (4 + 8 * k) 8).four 4).run D mb = (x, y) := ⟨_, _, rfl⟩
        have mka : MOk ma := by have := MOk.run D ((t.cut (4 + 8 * k) 8).two 0) hmm; rw [ha] at this; exact this
        have mkb : MOk mb := by have := MOk.run D ((t.cut (4 + 8 * k) 8).two 2) mka; rw [hb] at this; exact this
        have mkc : MOk mc := by have := MOk.run D ((t.cut (4 + 8 * k) 8).four 4) mkb; rw [hc] at this; exact this
        have lfo := Lib.hid (show fo < 4294967296 by have := four_lt D (t.cut (4 + 8 * k) 8) 4 mb; rw [hc] at this; exact this)
        have T1 := Lib.hid (twinW (some ⟨p, 0, none⟩) t (4 + 8 * k) 8 wr ht.b ht.s (by omega) (by omega))
        have T2 := Lib.hid (fun w f => twoW p 0 (t.cut (4 + 8 * k) 8) mm D w (by omega) hin hmm f)
        have T3 := Lib.hid (fun w f => twoW p 2 (t.cut (4 + 8 * k) 8) ma D w (by omega) hin mka f)
        have T4 := Lib.hid (fun w f => fourW p 4 (t.cut (4 + 8 * k) 8) mb D w (by omega) hin mkb f)
        have T5 := Lib.hid (fun w => rankW a b w)
        rw [ha] at T2
        rw [hb] at T3
        rw [hc] at T4
        simp only at T2 T3 T4
        have hs := H.out
        obtain ⟨qq, hq⟩ : ∃ q, c - k = q + 1 := ⟨c - k - 1, by omega⟩
        have hq' : c - (k + 1) = qq := by omega
        rw [hq, parts_step D t qq k bst bgn mm ma mb a b ha hb, hc, ← hq'] at hs
        simp only at hs
        have HS := Lib.hid hs
        clear hs ha hb hc H hq hq'
        generalize t.cut (4 + 8 * k) 8 = tk at *
        obtain ⟨J, hJ⟩ : ∃ J : Int, ((4 + 8 * k : Nat) : Int) = J := ⟨_, rfl⟩
        rw [hJ] at T1
        have nJ : 4 + 8 * (k : Int) = J := by omega
        have hJ0 : 0 ≤ J := by omega
        have hJ1 : J < 1000 := by omega
        clear hJ
        have ik : (k : Int) < (c : Int) := by omega
        have ik0 : (0 : Int) ≤ (k : Int) := by omega
        have y0 := cellsAt c0 0
        have y1 := cellsAt c0 1
        have y2 := cellsAt c0 2
        simp only [List.getElem?_toArray, List.getElem?_cons_zero, List.getElem?_cons_succ] at y0 y1 y2
        unfold wq at T1
        unfold wv at T2 T3 T4
        go_wp2_with (go_at_call 93; refine T1.out.mono ?_; rintro e w2 ⟨rfl, hb2⟩; refine Hid.out ?_)
        obtain ⟨W2, hW2⟩ : ∃ W2, w2.alloc (.cells #[.pointer (some ⟨p, 0, none⟩), .int .i64 (tk.b : Int), .int .i64 (tk.s : Int)] 126) = W2 := ⟨_, rfl⟩
        have b2 : W2.heap[w2.heap.size]? = some (.cells #[.pointer (some ⟨p, 0, none⟩), .int .i64 (tk.b : Int), .int .i64 (tk.s : Int)] 126 (0, 0)) := by rw [← hW2]; exact new_at _ _
        have f2 : FlAt p mm D W2 := by rw [← hW2]; exact fl_alloc (fl_below hff hb2) _
        have g2 : w1.grownBy W2 (some p) := by rw [← hW2]; exact grown_trans (grown_trans hg (grown_below _ hb2)) (World.grownBy_alloc _ _ _)
        have hn2 : w2.heap.size ≠ p := by have := fl_lt (fl_below hff hb2); omega
        clear y0 y1 y2 T1 c0
        have y0 := cellsAt b2 0
        have y1 := cellsAt b2 1
        have y2 := cellsAt b2 2
        simp only [List.getElem?_toArray, List.getElem?_cons_zero, List.getElem?_cons_succ] at y0 y1 y2
        refine Lib.hid ?_
        go_upto_region 9 with fail
        go_cut [10] (fun s10 wx => s10 = .int .i64 ((rankOf a b : Nat) : Int) ∧ W2.grownBy wx (some p) ∧ FlAt p mb D wx)
        case first =>
          go_region_held3 (fun w' => w'.cell? ⟨w2.heap.size, 0, none⟩ = some (.pointer (some ⟨p, 0, none⟩)) ∧ w'.cell? ⟨w2.heap.size, 1, none⟩ = some (.int .i64 (tk.b : Int)) ∧ w'.cell? ⟨w2.heap.size, 2, none⟩ = some (.int .i64 (tk.s : Int))) (go_keep) (first
            | (go_at_call 141; refine (T5.out _).mono ?_; rintro e w5 ⟨rfl, hw5⟩; subst hw5)
            | (go_at_call_of 95 (Value.int IntKind.i64 2); refine (T3.out _ ?_).mono ?_; exact k3; rintro e w4 ⟨rfl, k4, g4⟩; obtain ⟨q40, q41, q42⟩ := box_kept (grown_trans g3 g4) b2 hn2)
            | (go_at_call_of 95 (Value.int IntKind.i64 0); refine (T2.out _ ?_).mono ?_; exact f2; rintro e w3 ⟨rfl, k3, g3⟩; obtain ⟨q30, q31, q32⟩ := box_kept g3 b2 hn2))
          all_goals (
            go_wp2_with fail
            go_meet
            have a1 := grown_trans g3 g4
            exact ⟨rfl, ⟨a1.os, a1.tape, a1.output, a1.size, a1.block⟩, k4⟩)
        case rest =>
          obtain ⟨rfl, g5, k5⟩ := hcut
          have b5 := grown_at g5 b2 hn2
          have g6 := grown_trans g2 g5
          have rk := rank_le a b
          clear y0 y1 y2 T2 T3 T5 b2 f2 g2 g5 hW2 hb2
          have y0 := cellsAt b5 0
          have y1 := cellsAt b5 1
          have y2 := cellsAt b5 2
          simp only [List.getElem?_toArray, List.getElem?_cons_zero, List.getElem?_cons_succ] at y0 y1 y2
          have T6 := Lib.hid (T4.out _ k5)
          have hs := HS.out
          by_cases hrk : rankOf a b < bst
          · rw [if_pos hrk] at hs
            have H1 := Lib.hid hs
            have d1 : ((rankOf a b : Nat) : Int) < (bst : Int) := by omega
            clear hs HS T4
            generalize rankOf a b = rr at *
            go_wp2_with (go_at_call 128; refine T6.out.mono ?_; rintro e w6 ⟨rfl, k6, g7⟩)
            refine ⟨⟨_, _, _, _, _, _, _, _, _, _, _, _, _, _, _, _, _, _, _, _, _, _, _, _, _, ⟨k + 1, rr, fo, mc, rfl, rfl, by go_num, by omega, by omega, lfo, mkc, k6, grown_trans g6 g7, H1⟩, rfl⟩, ?_⟩
            simp [intOf]
            omega
          · rw [if_neg hrk] at hs
            have H1 := Lib.hid hs
            have d1 : ¬ (((rankOf a b : Nat) : Int) < (bst : Int)) := by omega
            clear hs HS T4 T6
            generalize rankOf a b = rr at *
            go_wp2
            refine ⟨⟨_, _, _, _, _, _, ⟨k + 1, bst, rfl, bgn, rfl, by go_num, by omega, hb3, hbg, mb, mkb, k5, H1⟩, rfl, rfl, rfl, rfl, rfl, rfl⟩, ?_⟩
            simp [intOf]
            omega
      · have hs := H.out
        rw [show c - k = 0 by omega, partsP] at hs
        simp only [Pr.run] at hs
        cases hs
        have ik : ¬ ((k : Int) < (c : Int)) := by omega
        have q1' := grown_at hg q1 hne1
        have gF := grown_trans gg hg
        have hr := HR.out
        rw [if_neg (by simp)] at hr
        clear H H2 HR q0 q1 gg
        by_cases e3 : best = 3
        · rw [if_pos e3] at hr
          cases hr
          subst e3
          have u0 := cellsAt q1' 0
          have u1 := cellsAt q1' 1
          have u2 := cellsAt q1' 2
          have fz0 := frozenAt q1' 0
          have fz1 := frozenAt q1' 1
          have fz2 := frozenAt q1' 2
          simp only [List.getElem?_toArray, List.getElem?_cons_zero, List.getElem?_cons_succ] at u0 u1 u2
          go_wp2
          obtain ⟨z0, z1, z2, zf, zg⟩ := end3 (w := w) (v0 := .pointer none) (v1 := .int .i64 0) (v2 := .int .i64 0) q1' (by omega) (by omega) hff gF
          exact bodyPost_ret (v := .tuple #[.agg #[.pointer none, .int .i64 0, .int .i64 0], .int .i64 7]) (by simp [results, Tryz.results121, go_sem, z0, z1, z2]) rfl ⟨rfl, zf, zg⟩
        · have d3 : ¬ ((best : Int) = 3) := by omega
          rw [if_neg e3] at hr
          have hbg' := hbg.out
          have T1 := Lib.hid (fun w => tsizeW (some ⟨p, 0, none⟩) t w)
          have T2 := Lib.hid (fun w => twinW (some ⟨p, 0, none⟩) t begin t.s w ht.b ht.s (by omega) (by omega))
          have T3 := Lib.hid (fun w => tsizeW (some ⟨p, 0, none⟩) (t.cut begin t.s) w)
          clear hbg'
          generalize t.cut begin t.s = tb at *
          unfold wq at T1 T2 T3
          have y0 := cellsAt c0 0
          have y1 := cellsAt c0 1
          have y2 := cellsAt c0 2
          simp only [List.getElem?_toArray, List.getElem?_cons_zero, List.getElem?_cons_succ] at y0 y1 y2
          go_upto_region 15 with fail
          go_cut [11] (fun s11 wx => ∃ kk : Nat, s11 = .pointer (some ⟨kk, 0, none⟩) ∧ wr.heap.size ≤ kk ∧ Below wr.heap.size wr wx ∧ wx.heap[kk]? = some (.cells #[.pointer (some ⟨p, 0, none⟩), .int .i64 (tb.b : Int), .int .i64 (tb.s : Int)] 126 (0, 0)))
          case first =>
            have N0 := Bx.start (W := wr)
            have hwl : w.heap.size < wr.heap.size := at_lt c0
            have hne8 : ∀ j, wr.heap.size ≤ j → ¬ (j = w.heap.size) := fun j a b => by omega
            have hne9 : ∀ j, wr.heap.size ≤ j → ¬ (w.heap.size = j) := fun j a b => by omega
            go_region_held3 (fun w' => w'.cell? ⟨w.heap.size, 0, none⟩ = some (.pointer (some ⟨p, 0, none⟩)) ∧ w'.cell? ⟨w.heap.size, 1, none⟩ = some (.int .i64 (t.b : Int)) ∧ w'.cell? ⟨w.heap.size, 2, none⟩ = some (.int .i64 (t.s : Int))) (go_keep) (first
              | (go_at_call 93; refine (T2.out _).mono ?_; rintro e w2x ⟨rfl, hb2x⟩; have N2 := (N1).call hb2x; obtain ⟨q20, q21, q22⟩ := box_kept (p := p) (grown_below _ N2.g) c0 hne; try (have hk9 := (N2.b _ rfl).1; have hk8 := hne8 _ hk9; have hk7 := hne9 _ hk9; have zz := (N2.b _ rfl).2; have c90 := cellsAt zz 0; have c91 := cellsAt zz 1; have c92 := cellsAt zz 2; simp only [List.getElem?_toArray, List.getElem?_cons_zero, List.getElem?_cons_succ] at c90 c91 c92; have f90 := frozenAt zz 0; have f91 := frozenAt zz 1; have f92 := frozenAt zz 2))
              | (go_at_call 93; refine (T2.out _).mono ?_; rintro e w2x ⟨rfl, hb2x⟩; have N2 := (N1.alloc).call hb2x; obtain ⟨q20, q21, q22⟩ := box_kept (p := p) (grown_below _ N2.g) c0 hne; try (have hk9 := (N2.b _ rfl).1; have hk8 := hne8 _ hk9; have hk7 := hne9 _ hk9; have zz := (N2.b _ rfl).2; have c90 := cellsAt zz 0; have c91 := cellsAt zz 1; have c92 := cellsAt zz 2; simp only [List.getElem?_toArray, List.getElem?_cons_zero, List.getElem?_cons_succ] at c90 c91 c92; have f90 := frozenAt zz 0; have f91 := frozenAt zz 1; have f92 := frozenAt zz 2))
              | (go_at_call 91; refine (T1.out _).mono ?_; rintro e w1x ⟨rfl, hb1x⟩; have N1 := (N0.drew).call hb1x; obtain ⟨q10, q11, q12⟩ := box_kept (p := p) (grown_below _ N1.g) c0 hne; skip)
              | (go_at_call 91; refine (T1.out _).mono ?_; rintro e w1x ⟨rfl, hb1x⟩; have N1 := (N0.allocD).call hb1x; obtain ⟨q10, q11, q12⟩ := box_kept (p := p) (grown_below _ N1.g) c0 hne; skip)
              | (go_at_call 91; refine (T1.out _).mono ?_; rintro e w1x ⟨rfl, hb1x⟩; have N1 := (N0).call hb1x; obtain ⟨q10, q11, q12⟩ := box_kept (p := p) (grown_below _ N1.g) c0 hne; skip)
              | (go_at_call 91; refine (T1.out _).mono ?_; rintro e w1x ⟨rfl, hb1x⟩; have N1 := (N0.alloc).call hb1x; obtain ⟨q10, q11, q12⟩ := box_kept (p := p) (grown_below _ N1.g) c0 hne; skip))
            all_goals (
              go_wp2_with fail
              go_meet
              first
                | exact ⟨_, rfl, N2.g.size, N2.g.alloc N2.g.size _, new_at _ _⟩
                | (obtain ⟨a1, a2⟩ := N2.set (.pointer (some ⟨p, 0, none⟩)) (.int .i64 (tb.b : Int)) (.int .i64 (tb.s : Int)); first | exact ⟨_, rfl, (N2.b _ rfl).1, a1, a2⟩ | exact ⟨_, rfl, (N2.b _ rfl).1, a1.drew, a2⟩)
                | exact ⟨_, rfl, N2.g.size, (N2.g.alloc N2.g.size _).drew, new_at _ _⟩
                | exact ⟨_, rfl, N2.g.size, N2.g.drew.alloc N2.g.size _, new_at _ _⟩)
          case rest =>
            obtain ⟨kk, rfl, hkk, bc, nk⟩ := hcut
            have fc := fl_below hff bc
            have q2 := at_below q1' bc
            have gc := grown_trans gF (grown_below (some p) bc)
            have T4 := Lib.hid (T3.out wc)
            clear y0 y1 y2 T1 T2 T3 c0 q1' gF
            have y0 := cellsAt nk 0
            have y1 := cellsAt nk 1
            have y2 := cellsAt nk 2
            simp only [List.getElem?_toArray, List.getElem?_cons_zero, List.getElem?_cons_succ] at y0 y1 y2
            go_wp2_with (go_at_call 91; refine T4.out.mono ?_; rintro e w7 ⟨rfl, hb7⟩; refine Hid.out ?_)
            have q7 := at_below q2 hb7
            have n7 := at_below nk hb7
            have f7 := fl_below fc hb7
            have g7 := grown_trans gc (grown_below (some p) hb7)
            clear y0 y1 y2 T4 q2 nk fc gc
            have y0 := cellsAt n7 0
            have y1 := cellsAt n7 1
            have y2 := cellsAt n7 2
            have u0 := cellsAt q7 0
            have u1 := cellsAt q7 1
            have u2 := cellsAt q7 2
            have fz0 := frozenAt q7 0
            have fz1 := frozenAt q7 1
            have fz2 := frozenAt q7 2
            simp only [List.getElem?_toArray, List.getElem?_cons_zero, List.getElem?_cons_succ] at y0 y1 y2 u0 u1 u2
            by_cases e5 : tb.s < 2
            · rw [if_pos e5] at hr
              cases hr
              have d5 : (tb.s : Int) < 2 := by omega
              refine Lib.hid ?_
              go_wp2
              obtain ⟨z0, z1, z2, zf, zg⟩ := end3 (w := w) (v0 := .pointer none) (v1 := .int .i64 0) (v2 := .int .i64 0) q7 (by omega) (by omega) f7 g7
              exact bodyPost_ret (v := .tuple #[.agg #[.pointer none, .int .i64 0, .int .i64 0], .int .i64 5]) (by simp [results, Tryz.results121, go_sem, z0, z1, z2]) rfl ⟨rfl, zf, zg⟩
            · rw [if_neg e5] at hr
              cases hr
              have d5 : ¬ ((v.s : Int) < 2) := by omega
              refine Lib.hid ?_
              go_wp2
              obtain ⟨z0, z1, z2, zf, zg⟩ := end3 (w := w) (v0 := .pointer (some ⟨p, 0, none⟩)) (v1 := .int .i64 (v.b : Int)) (v2 := .int .i64 (v.s : Int)) q7 (by omega) (by omega) f7 g7
              exact bodyPost_ret (v := .tuple #[.agg #[.pointer (some ⟨p, 0, none⟩), .int .i64 (v.b : Int), .int .i64 (v.s : Int)], .int .i64 0]) (by simp [results, Tryz.results121, go_sem, z0, z1, z2]) rfl ⟨rfl, zf, zg⟩
end Go.Proofs.YteibjmlimcpaoaaGreatDoor.W

set_option linter.unusedVariables false
set_option linter.unusedSimpArgs false
namespace Go.Proofs.YteibjmlimcpaoaaGreatDoor.W
open Go.RowKit Go.Sort

theorem cover_run (D : List UInt8) (t : Wn) (m m1 m2 m3 : Mt) (v : Wn) (s1 form s2 : Nat) (c : Int) (h1 : (partP t).run D m = ((v, s1), m1)) (h2 : (v.two 0).run D m1 = (form, m2)) (h3 : (if form = 4 then countSmallP v else if form = 12 then countGreatP v else .ret (0, 7)).run D m2 = ((c, s2), m3)) :
    (coverP t 0).run D m = if s1 ≠ 0 then ((s1, 0, 0), m1) else if s2 ≠ 0 then ((s2, 0, 0), m3) else ((0, form, c), m3) := by
  unfold coverP
  rw [if_neg (by simp), Pr.run_bind, h1]
  simp only
  split
  · rfl
  · rw [Pr.run_bind, h2]
    simp only
    rw [Pr.run_bind, h3]
    simp only
    split <;> rfl
theorem part_in (D : List UInt8) (t : Wn) (m : Mt) (v : Wn) (st : Nat) (M : Mt) (ht : InF t D) (h : (partP t).run D m = ((v, st), M)) (h0 : st = 0) : InF v D := by
  obtain ⟨c, s1, m1, h1⟩ : ∃ c s m1, (countP t 4 8).run D m = ((c, s), m1) := ⟨_, _, _, rfl⟩
  obtain ⟨best, begin, m2, h2⟩ : ∃ b s m2, (partsP t c 0 3 0).run D m1 = ((b, s), m2) := ⟨_, _, _, rfl⟩
  rw [part_run D t m m1 m2 c s1 best begin h1 h2] at h
  subst h0
  split at h
  · have := (Prod.mk.inj (Prod.mk.inj h).1).2
    omega
  · split at h
    · have := (Prod.mk.inj (Prod.mk.inj h).1).2
      omega
    · split at h
      · have := (Prod.mk.inj (Prod.mk.inj h).1).2
        omega
      · rw [← (Prod.mk.inj (Prod.mk.inj h).1).1]
        exact cut_in ht _ _

set_option maxRecDepth 100000 in
set_option maxHeartbeats 4000000 in
theorem coverW (p st : Nat) (q : Option Addr) (t : Wn) (m : Mt) (D : List UInt8) (w : World) (hst : st ≤ 8) (hq : st = 0 → q = some ⟨p, 0, none⟩ ∧ InF t D) (hm : MOk m) (h : FlAt p m D w) (a b : Nat) (c : Int) (M : Mt) (hr : (coverP t st).run D m = ((a, b, c), M)) :
    Calls Tryz.prog 82 #[wq q t, .int .i64 st] w fun e w' => e = .returned (.agg #[.int .i64 a, .int .i64 b, .int .i64 c]) ∧ FlAt p M D w' ∧ w.grownBy w' (some p) := by
  have hlt := fl_lt h
  by_cases h0 : st = 0
  · subst h0
    obtain ⟨rfl, ht⟩ := hq rfl
    obtain ⟨v, s1, m1, h1⟩ : ∃ x y z, (partP t).run D m = ((x, y), z) := ⟨_, _, _, rfl⟩
    obtain ⟨form, m2, h2⟩ : ∃ x y, (v.two 0).run D m1 = (x, y) := ⟨_, _, rfl⟩
    obtain ⟨cc, s2, m3, h3⟩ : ∃ x y z, (if form = 4 then countSmallP v else if form = 12 then countGreatP v else .ret (0, 7)).run D m2 = ((x, y), z) := ⟨_, _, _, rfl⟩
    rw [cover_run D t m m1 m2 m3 v s1 form s2 cc h1 h2 h3] at hr
    have mk1 : MOk m1 := by have := MOk.run D (partP t) hm; rw [h1] at this; exact this
    have mk2 : MOk m2 := by have := MOk.run D (v.two 0) mk1; rw [h2] at this; exact this
    have hv := part_in D t m v s1 m1 ht h1
    obtain ⟨W, hW⟩ : ∃ W, (w.alloc (.cells #[.pointer (some ⟨p, 0, none⟩), .int .i64 (t.b : Int), .int .i64 (t.s : Int)] 126)).alloc (.cells #[.int .i64 0, .int .i64 0, .int .i64 0] 37) = W := ⟨_, rfl⟩
    have f0 : FlAt p m D W := by rw [← hW]; exact fl_alloc (fl_alloc h _) _
    have r0 : W.heap[w.heap.size]? = some (.cells #[.pointer (some ⟨p, 0, none⟩), .int .i64 (t.b : Int), .int .i64 (t.s : Int)] 126 (0, 0)) := by rw [← hW]; exact at_alloc (new_at _ _)
    have r1 : W.heap[w.heap.size + 1]? = some (.cells #[.int .i64 0, .int .i64 0, .int .i64 0] 37 (0, 0)) := by
      rw [← hW]
      have := new_at (w.alloc (.cells #[.pointer (some ⟨p, 0, none⟩), .int .i64 (t.b : Int), .int .i64 (t.s : Int)] 126)) (.cells #[.int .i64 0, .int .i64 0, .int .i64 0] 37)
      simpa using this
    have g0 : w.grownBy W (some p) := by rw [← hW]; exact grown_trans (World.grownBy_alloc _ _ _) (World.grownBy_alloc _ _ _)
    have A := Lib.hid (partW p t m D W ht hm f0 v s1 m1 h1)
    have y0 := cellsAt r0 0
    have y1 := cellsAt r0 1
    have y2 := cellsAt r0 2
    simp only [List.getElem?_toArray, List.getElem?_cons_zero, List.getElem?_cons_succ] at y0 y1 y2
    unfold wq
    unfold wv wq at A
    have hne : w.heap.size + 1 ≠ p := by omega
    clear h
    by_cases c1 : s1 ≠ 0
    · rw [if_pos c1] at hr
      cases hr
      have d1 : ¬ ((a : Int) = 0) := by omega
      rw [if_neg c1] at A
      clear h1 h2 h3 hv
      go_enter Tryz.func82, Tryz.ntmps82
      go_wp2_with (go_at_call 121; refine A.out.mono ?_; rintro e w1 ⟨rfl, k1, g1⟩; refine Hid.out ?_)
      obtain ⟨W1, hW1⟩ : ∃ W1, w1.alloc (.cells #[.pointer none, .int .i64 (v.b : Int), .int .i64 (v.s : Int)] 126) = W1 := ⟨_, rfl⟩
      have q1 : W1.heap[w.heap.size + 1]? = some (.cells #[.int .i64 0, .int .i64 0, .int .i64 0] 37 (0, 0)) := by rw [← hW1]; exact at_alloc (grown_at g1 r1 hne)
      have k1' : FlAt p M D W1 := by rw [← hW1]; exact fl_alloc k1 _
      have gg : w.grownBy W1 (some p) := by rw [← hW1]; exact grown_trans (grown_trans g0 g1) (World.grownBy_alloc _ _ _)
      clear y0 y1 y2 hW A
      have u0 := cellsAt q1 0
      have u1 := cellsAt q1 1
      have u2 := cellsAt q1 2
      have fz0 := frozenAt q1 0
      have fz1 := frozenAt q1 1
      have fz2 := frozenAt q1 2
      simp only [List.getElem?_toArray, List.getElem?_cons_zero, List.getElem?_cons_succ] at u0 u1 u2
      refine Lib.hid ?_
      go_wp2
      obtain ⟨z0, z1, z2, zf, zg⟩ := end3 (w := w) (v0 := .int .i64 (a : Int)) (v1 := .int .i64 0) (v2 := .int .i64 0) q1 (by omega) (by omega) k1' gg
      exact bodyPost_ret (v := .agg #[.int .i64 (a : Int), .int .i64 0, .int .i64 0]) (by simp [results, Tryz.results82, go_sem, z0, z1, z2]) rfl ⟨rfl, zf, zg⟩
    · have hs1 : s1 = 0 := by omega
      subst hs1
      rw [if_neg (by simp)] at hr
      rw [if_pos rfl] at A
      have hvv := hv rfl
      have B := Lib.hid (fun w f => twoW p 0 v m1 D w (by omega) hvv mk1 f)
      rw [h2] at B
      simp only at B
      unfold wv at B
      have HR := Lib.hid hr
      have H3 := Lib.hid h3
      have hfo := Lib.hid (show form < 65536 by have := two_lt D v 0 m1; rw [h2] at this; exact this)
      clear h1 h2 h3 hv hr
      go_enter Tryz.func82, Tryz.ntmps82
      go_wp2_with (go_at_call 121; refine A.out.mono ?_; rintro e w1 ⟨rfl, k1, g1⟩; refine Hid.out ?_)
      obtain ⟨W1, hW1⟩ : ∃ W1, w1.alloc (.cells #[.pointer (some ⟨p, 0, none⟩), .int .i64 (v.b : Int), .int .i64 (v.s : Int)] 126) = W1 := ⟨_, rfl⟩
      have q1 : W1.heap[w.heap.size + 1]? = some (.cells #[.int .i64 0, .int .i64 0, .int .i64 0] 37 (0, 0)) := by rw [← hW1]; exact at_alloc (grown_at g1 r1 hne)
      have b1 : W1.heap[w1.heap.size]? = some (.cells #[.pointer (some ⟨p, 0, none⟩), .int .i64 (v.b : Int), .int .i64 (v.s : Int)] 126 (0, 0)) := by rw [← hW1]; exact new_at _ _
      have k1' : FlAt p m1 D W1 := by rw [← hW1]; exact fl_alloc k1 _
      have gg : w.grownBy W1 (some p) := by rw [← hW1]; exact grown_trans (grown_trans g0 g1) (World.grownBy_alloc _ _ _)
      have hn1 : w1.heap.size ≠ p := by have := fl_lt k1; omega
      clear y0 y1 y2 hW A
      have y0 := cellsAt b1 0
      have y1 := cellsAt b1 1
      have y2 := cellsAt b1 2
      simp only [List.getElem?_toArray, List.getElem?_cons_zero, List.getElem?_cons_succ] at y0 y1 y2
      refine Lib.hid ?_
      go_wp2_with (go_at_call 95; refine (B.out _ k1').mono ?_; rintro e w2 ⟨rfl, k2, g2⟩; refine Hid.out ?_)
      have q2 := grown_at g2 q1 hne
      have b2 := grown_at g2 b1 hn1
      have gg2 := grown_trans gg g2
      clear y0 y1 y2 B q1 b1 k1' gg hW1
      have y0 := cellsAt b2 0
      have y1 := cellsAt b2 1
      have y2 := cellsAt b2 2
      simp only [List.getElem?_toArray, List.getElem?_cons_zero, List.getElem?_cons_succ] at y0 y1 y2
      have h3 := H3.out
      have hr := HR.out
      by_cases e4 : form = 4
      · subst e4
        rw [if_pos rfl] at h3
        have C := Lib.hid (countSmallW p v m2 D w2 hvv mk2 k2 cc s2 m3 h3)
        unfold wv at C
        clear h3 H3 HR
        by_cases e5 : s2 ≠ 0
        · rw [if_pos e5] at hr
          cases hr
          have d5 : ¬ ((a : Int) = 0) := by omega
          refine Lib.hid ?_
          go_wp2_with (go_at_call 122; refine C.out.mono ?_; rintro e w3 ⟨rfl, k3, g3⟩; refine Hid.out ?_)
          have q3 := grown_at g3 q2 hne
          have gg3 := grown_trans gg2 g3
          clear y0 y1 y2
          have u0 := cellsAt q3 0
          have u1 := cellsAt q3 1
          have u2 := cellsAt q3 2
          have fz0 := frozenAt q3 0
          have fz1 := frozenAt q3 1
          have fz2 := frozenAt q3 2
          simp only [List.getElem?_toArray, List.getElem?_cons_zero, List.getElem?_cons_succ] at u0 u1 u2
          refine Lib.hid ?_
          go_wp2
          obtain ⟨z0, z1, z2, zf, zg⟩ := end3 (w := w) (v0 := .int .i64 (a : Int)) (v1 := .int .i64 0) (v2 := .int .i64 0) q3 (by omega) (by omega) k3 gg3
          exact bodyPost_ret (v := .agg #[.int .i64 (a : Int), .int .i64 0, .int .i64 0]) (by simp [results, Tryz.results82, go_sem, z0, z1, z2]) rfl ⟨rfl, zf, zg⟩
        · have e5' : s2 = 0 := by omega
          subst e5'
          rw [if_neg (by simp)] at hr
          cases hr
          refine Lib.hid ?_
          go_wp2_with (go_at_call 122; refine C.out.mono ?_; rintro e w3 ⟨rfl, k3, g3⟩; refine Hid.out ?_)
          have q3 := grown_at g3 q2 hne
          have gg3 := grown_trans gg2 g3
          clear y0 y1 y2
          have u0 := cellsAt q3 0
          have u1 := cellsAt q3 1
          have u2 := cellsAt q3 2
          have fz0 := frozenAt q3 0
          have fz1 := frozenAt q3 1
          have fz2 := frozenAt q3 2
          simp only [List.getElem?_toArray, List.getElem?_cons_zero, List.getElem?_cons_succ] at u0 u1 u2
          refine Lib.hid ?_
          go_wp2
          obtain ⟨z0, z1, z2, zf, zg⟩ := end3 (w := w) (v0 := .int .i64 0) (v1 := .int .i64 4) (v2 := .int .i64 c) q3 (by omega) (by omega) k3 gg3
          exact bodyPost_ret (v := .agg #[.int .i64 0, .int .i64 4, .int .i64 c]) (by simp [results, Tryz.results82, go_sem, z0, z1, z2]) rfl ⟨rfl, zf, zg⟩
      · have d4 : ¬ ((form : Int) = 4) := by omega
        rw [if_neg e4] at h3
        by_cases e12 : form = 12
        · subst e12
          rw [if_pos rfl] at h3
          have C := Lib.hid (countGreatW p v m2 D w2 hvv mk2 k2 cc s2 m3 h3)
          unfold wv at C
          clear h3 H3 HR
          by_cases e5 : s2 ≠ 0
          · rw [if_pos e5] at hr
            cases hr
            have d5 : ¬ ((a : Int) = 0) := by omega
            refine Lib.hid ?_
            go_wp2_with (go_at_call 123; refine C.out.mono ?_; rintro e w3 ⟨rfl, k3, g3⟩; refine Hid.out ?_)
            have q3 := grown_at g3 q2 hne
            have gg3 := grown_trans gg2 g3
            clear y0 y1 y2
            have u0 := cellsAt q3 0
            have u1 := cellsAt q3 1
            have u2 := cellsAt q3 2
            have fz0 := frozenAt q3 0
            have fz1 := frozenAt q3 1
            have fz2 := frozenAt q3 2
            simp only [List.getElem?_toArray, List.getElem?_cons_zero, List.getElem?_cons_succ] at u0 u1 u2
            refine Lib.hid ?_
            go_wp2
            obtain ⟨z0, z1, z2, zf, zg⟩ := end3 (w := w) (v0 := .int .i64 (a : Int)) (v1 := .int .i64 0) (v2 := .int .i64 0) q3 (by omega) (by omega) k3 gg3
            exact bodyPost_ret (v := .agg #[.int .i64 (a : Int), .int .i64 0, .int .i64 0]) (by simp [results, Tryz.results82, go_sem, z0, z1, z2]) rfl ⟨rfl, zf, zg⟩
          · have e5' : s2 = 0 := by omega
            subst e5'
            rw [if_neg (by simp)] at hr
            cases hr
            refine Lib.hid ?_
            go_wp2_with (go_at_call 123; refine C.out.mono ?_; rintro e w3 ⟨rfl, k3, g3⟩; refine Hid.out ?_)
            have q3 := grown_at g3 q2 hne
            have gg3 := grown_trans gg2 g3
            clear y0 y1 y2
            have u0 := cellsAt q3 0
            have u1 := cellsAt q3 1
            have u2 := cellsAt q3 2
            have fz0 := frozenAt q3 0
            have fz1 := frozenAt q3 1
            have fz2 := frozenAt q3 2
            simp only [List.getElem?_toArray, List.getElem?_cons_zero, List.getElem?_cons_succ] at u0 u1 u2
            refine Lib.hid ?_
            go_wp2
            obtain ⟨z0, z1, z2, zf, zg⟩ := end3 (w := w) (v0 := .int .i64 0) (v1 := .int .i64 12) (v2 := .int .i64 c) q3 (by omega) (by omega) k3 gg3
            exact bodyPost_ret (v := .agg #[.int .i64 0, .int .i64 12, .int .i64 c]) (by simp [results, Tryz.results82, go_sem, z0, z1, z2]) rfl ⟨rfl, zf, zg⟩
        · rw [if_neg e12] at h3
          have d12 : ¬ ((form : Int) = 12) := by omega
          simp only [Pr.run] at h3
          cases h3
          rw [if_pos (by simp)] at hr
          cases hr
          clear H3 HR y0 y1 y2
          have u0 := cellsAt q2 0
          have u1 := cellsAt q2 1
          have u2 := cellsAt q2 2
          have fz0 := frozenAt q2 0
          have fz1 := frozenAt q2 1
          have fz2 := frozenAt q2 2
          simp only [List.getElem?_toArray, List.getElem?_cons_zero, List.getElem?_cons_succ] at u0 u1 u2
          refine Lib.hid ?_
          go_wp2
          obtain ⟨z0, z1, z2, zf, zg⟩ := end3 (w := w) (v0 := .int .i64 7) (v1 := .int .i64 0) (v2 := .int .i64 0) q2 (by omega) (by omega) k2 gg2
          exact bodyPost_ret (v := .agg #[.int .i64 7, .int .i64 0, .int .i64 0]) (by simp [results, Tryz.results82, go_sem, z0, z1, z2]) rfl ⟨rfl, zf, zg⟩
  · have e0 : (coverP t st).run D m = ((st, 0, 0), m) := by unfold coverP; rw [if_pos h0]; rfl
    rw [e0] at hr
    cases hr
    have d0 : ¬ ((st : Int) = 0) := by omega
    unfold wq
    have hf0 := fl_alloc (fl_alloc h (.cells #[.pointer q, .int .i64 (t.b : Int), .int .i64 (t.s : Int)] 126)) (.cells #[.int .i64 (st : Int), .int .i64 0, .int .i64 0] 37)
    clear h
    go_enter Tryz.func82, Tryz.ntmps82
    go_wp2
    exact bodyPost_ret (v := .agg #[.int .i64 (st : Int), .int .i64 0, .int .i64 0]) (by simp [results, Tryz.results82, go_sem]) rfl ⟨rfl, hf0, grown_trans (World.grownBy_alloc _ _ _) (World.grownBy_alloc _ _ _)⟩
end Go.Proofs.YteibjmlimcpaoaaGreatDoor.W
