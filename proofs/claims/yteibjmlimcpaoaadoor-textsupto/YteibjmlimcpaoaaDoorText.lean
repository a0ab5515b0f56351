/-
  What text.show answers with text.wide, and what text.Tell and visor.Text answer, for every platform, encoding, string of at most 1048576 bytes and limit; nothing that lay in memory turns.
-/
import Derived.Test.YteibjmlimcpaoaaDoorShow
set_option linter.unusedVariables false
namespace Go.Proofs.YteibjmlimcpaoaaDoor.T
open Go.RowKit

theorem firstW_facts (l : List UInt8) (h : 2 ≤ l.length) : okC (firstW l).1 ∧ 1 ≤ (firstW l).2.1 ∧ (firstW l).2.1 ≤ l.length ∧ (firstW l).2.1 % 2 = 0 := by
  have h0 := pairN_lt l
  unfold firstW okC
  split
  · refine ⟨?_, by simp, h, by simp⟩
    simp only
    omega
  · split
    · refine ⟨?_, by simp, by simp only; omega, by simp⟩
      simp only
      omega
    · exact ⟨by decide, by simp, h, by simp⟩

set_option maxRecDepth 100000 in
set_option maxHeartbeats 2000000 in
theorem showW (s : ByteArray) (limit : Int) (w : World) (r : List UInt8 × Bool × Bool × Bool) (hs : s.size ≤ 1048576) (hev : s.size % 2 = 0) (ht : Tab w) (hr : tell limit (letters firstW s.size s.data.toList) [] false false = r) :
    Calls Tryd.prog 51 #[.string s, .int .i64 limit, .func (.func 53) #[] #[]] w fun e w' => e = .returned (.tuple #[.string ⟨r.1.toArray⟩, .int .i64 (markN r.2.1 r.2.2.1 r.2.2.2)]) ∧ Below w.heap.size w w' := by
  have HR := Lib.hid hr
  clear hr
  go_enter Tryd.func51, Tryd.ntmps51
  go_wp2
  go_loopw [0, 9] (fun bs ms wr => ∃ (t : ByteArray) (fuel : Nat) (acc : List UInt8) (br hd : Bool), bs = .string t ∧ ms = .int .i64 (markN br hd false) ∧ Lib.IsBuilderF 128 5 w.heap.size w.heap.size (Lib.byteCells acc) wr ∧ Below w.heap.size w wr ∧ t.size ≤ fuel ∧ t.size ≤ 1048576 ∧ t.size % 2 = 0 ∧ acc.length + 6 * t.size ≤ 6291456 ∧ Hid (tell limit (letters firstW fuel t.data.toList) acc br hd = r)) (fun bs _ _ => strSize bs)
  case atStart =>
    exact ⟨s, s.size, [], false, false, rfl, rfl, Lib.IsBuilderF.of (Lib.fresh_isBuilder 128 5 w), (Below.refl _ w).alloc (Nat.le_refl _) _, Nat.le_refl _, hs, hev, by simp; omega, HR⟩
  case round =>
    obtain ⟨t, fuel, acc, br, hd, rfl, rfl, hI, hbw, hfu, hts, hte, hal, H⟩ := hrel
    by_cases h0 : 0 < t.size
    · obtain ⟨fv, hfv⟩ : ∃ x, firstW t.data.toList = x := ⟨_, rfl⟩
      have ff := firstW_facts t.data.toList (by have : t.data.toList.length = t.size := (by simp); omega)
      have C17 := Lib.hid (fun w => wide18 t w (by omega) hts)
      rw [hfv] at ff C17
      obtain ⟨v, sz, br1⟩ := fv
      simp only at ff C17
      obtain ⟨fok, f1, f2, f3⟩ := ff
      have htr : Tab wr := ht.below hbw ht.lt
      go_wp2_with (go_at_call 53; refine (C17.out _).mono ?_; rintro e w1 ⟨rfl, hb1⟩; refine Hid.out ?_)
      refine Lib.hid ?_
      have hI2 := (builder_on hI hb1).alloc (.cells #[.int .i32 (v : Int), .int .i64 (sz : Int), .bool br1] 130)
      have ht2 : Tab (w1.alloc (.cells #[.int .i32 (v : Int), .int .i64 (sz : Int), .bool br1] 130)) := tab_alloc (htr.on hb1)
      have hc2 := ChAt.new w1 v sz br1
      have hkw : w.heap.size < w1.heap.size := Nat.lt_of_lt_of_le (builder_lt hI) hb1.size
      have hbw2 := (hbw.trans (hb1.mono hbw.size)).alloc (Nat.le_of_lt hkw) (.cells #[.int .i32 (v : Int), .int .i64 (sz : Int), .bool br1] 130)
      go_wp2_with (go_at_call 73; refine (shown21 v _ fok ht2).mono ?_; rintro e w3 ⟨rfl, hb3⟩; refine Hid.out ?_)
      have hI3 := builder_on hI2 hb3
      have hc3 := hc2.on hb3
      have hbw3 := hbw2.trans (hb3.mono hbw2.size)
      have hl6 := shown_length v
      clear hb3 hc2 hI2 ht2 hbw2 hI hbw
      obtain ⟨k0, k1, k2⟩ := hc3.cells
      obtain ⟨b, hb⟩ : ∃ b, w.heap.size = b := ⟨_, rfl⟩
      obtain ⟨kk, hkk⟩ : ∃ kk, w1.heap.size = kk := ⟨_, rfl⟩
      obtain ⟨sl, hsl⟩ : ∃ sl, shownL (v : Int) = sl := ⟨_, rfl⟩
      rw [hb, hkk] at hkw
      rw [hkk] at hc3 k0 k1 k2
      have hbsz := hbw3.size
      rw [hb] at hI3 hbw3 hbsz
      rw [hsl] at hl6
      refine Lib.hid ?_
      rw [hsl, hb, hkk]
      clear hkk hb1
      have HB := Lib.hid hb
      have HSL := Lib.hid hsl
      have hst := letters_step firstW fuel t.data.toList (by simpa using h0) (by simpa using hfu)
      rw [hfv] at hst
      have h1 := H.out
      rw [hst] at h1
      have H1 := Lib.hid h1
      clear h1 hst H hfv
      have L22 := Lib.hid (bLen b b (Lib.byteCells acc) w3 hI3)
      rw [Lib.byteCells_length] at L22
      by_cases hfit : limit < (acc.length : Int) + sl.length
      · have h2 := H1.out
        rw [tell_cut limit v br1 _ acc sl br hd hsl hfit] at h2
        have H2 := Lib.hid h2
        have hm4 := mark_cut br hd
        clear h2 H1 hb hsl
        go_wp2_with (first | (go_at_call 74; refine L22.out.mono ?_; rintro e w4 ⟨rfl, rfl⟩) | (go_at_call 75; refine (bString b b acc _ hI3 hbsz).mono ?_; rintro e w5 ⟨rfl, hI4, hb4, _⟩))
        go_ret2
        refine ⟨?_, ?_⟩
        · rw [← H2.out]
          rfl
        · rw [HB.out]
          exact hbw3.trans hb4
      · have h2 := H1.out
        rw [tell_fit limit v br1 _ acc sl br hd hsl hfit] at h2
        have H2 := Lib.hid h2
        have hm4 := mark_or br hd br1 (harmB v)
        have M25 := Lib.hid (fun w => marks25 v sz br1 w)
        clear h2 H1 hb hsl
        have W24 := Lib.hid (bWrite b b (Lib.byteCells acc) ⟨sl.toArray⟩ w3 hI3 (by rw [Lib.byteCells_length, ba_size]; omega) hbsz)
        go_wp2_with (first | (go_at_call 74; refine L22.out.mono ?_; rintro e w4 ⟨rfl, rfl⟩) | (go_at_call 76; refine W24.out.mono ?_; rintro e w5 ⟨rfl, hI4, hb4, ho4⟩; refine Hid.out ?_))
        have hc4 := hc3.others (by omega) ho4
        obtain ⟨j0, j1, j2⟩ := hc4.cells
        refine Lib.hid ?_
        go_wp2_with (go_at_call 77; refine (M25.out _).mono ?_; rintro e w6 ⟨rfl, hb6⟩; refine Hid.out ?_)
        obtain ⟨i0, i1, i2⟩ := (hc4.on hb6).cells
        have hI6 := builderAt_on hI4 hb6
        have hbw6 := (hbw3.trans hb4).trans (hb6.mono (Nat.le_trans hbsz hb4.size))
        refine Lib.hid ?_
        clear j0 j1 j2 k0 k1 k2
        go_wp2
        have hb := HB.out
        subst hb
        go_roundw
        case rel =>
          refine ⟨t.extract sz t.size, fuel - 1, acc ++ sl, br || br1, hd || harmB v, rfl, rfl, ?_, hbw6, ?_, ?_, ?_, ?_, ?_⟩
          · rw [Lib.byteCells_append]
            refine Or.inr ?_
            exact hI6
          · rw [size_extract]; omega
          · rw [size_extract]; omega
          · rw [size_extract]; omega
          · rw [size_extract, List.length_append]; omega
          · rw [extract_toList]; exact H2
        case measure =>
          show (t.extract sz t.size).size < t.size
          rw [size_extract]
          omega
    · have h1 := H.out
      rw [letters_nil firstW fuel t.data.toList (by simpa using h0)] at h1
      have H1 := Lib.hid h1
      clear h1 H
      have h0' : ¬ (0 < (t.size : Int)) := by omega
      go_wp2_with (go_at_call 75; refine (bString _ _ acc _ hI hbw.size).mono ?_; rintro e w5 ⟨rfl, hI4, hb4, _⟩)
      go_ret2
      refine ⟨?_, hbw.trans hb4⟩
      rw [← H1.out]
      rfl

theorem ret_three {a a' : ByteArray} {b b' c c' : Int} (h1 : a = a') (h2 : b = b') (h3 : c = c') : Ending.returned (.tuple #[.string a, .int .i64 b, .int .i64 c]) = Ending.returned (.tuple #[.string a', .int .i64 b', .int .i64 c']) := by rw [h1, h2, h3]

set_option maxRecDepth 100000 in
set_option maxHeartbeats 1000000 in
theorem tell9_no (p q : Int) (s : ByteArray) (limit : Int) (w : World) (hk : (twoB p q || oneB p q) = false) :
    Calls Tryd.prog 28 #[.int .i64 p, .int .i64 q, .string s, .int .i64 limit] w fun e w' => e = .returned (.tuple #[.string ⟨#[]⟩, .int .i64 0, .int .i64 7]) ∧ Below w.heap.size w w' := by
  have K := Lib.hid (fun w => known15 p q w)
  rw [hk] at K
  clear hk
  go_enter Tryd.func28, Tryd.ntmps28
  go_wp2_with (go_at_call 50; refine (K.out _).mono ?_; rintro e w' ⟨rfl, rfl⟩)
  go_ret3
  exact ⟨rfl, Below.refl _ _⟩

set_option maxRecDepth 100000 in
set_option maxHeartbeats 1000000 in
theorem tell9_one (q : Int) (s : ByteArray) (limit : Int) (w : World) (r : List UInt8 × Bool × Bool × Bool) (hk : oneB 1 q = true) (hs : s.size ≤ 1048576) (ht : Tab w) (hr : tell limit (letters firstN s.size s.data.toList) [] false false = r) :
    Calls Tryd.prog 28 #[.int .i64 1, .int .i64 q, .string s, .int .i64 limit] w fun e w' => e = .returned (.tuple #[.string ⟨r.1.toArray⟩, .int .i64 (markN r.2.1 r.2.2.1 r.2.2.2), .int .i64 0]) ∧ Below w.heap.size w w' := by
  have K := Lib.hid (fun w => known15 1 q w)
  rw [hk, Bool.or_true] at K
  have S := Lib.hid (showN s limit w r hs ht hr)
  clear hk hr
  go_enter Tryd.func28, Tryd.ntmps28
  go_wp2_with (first | (go_at_call 50; refine (K.out _).mono ?_; rintro e w' ⟨rfl, rfl⟩) | (go_at_call 51; refine S.out.mono ?_; rintro e w' ⟨rfl, hb⟩))
  go_ret3
  exact ⟨rfl, hb⟩

set_option maxRecDepth 100000 in
set_option maxHeartbeats 1000000 in
theorem tell9_bad (p q : Int) (s : ByteArray) (limit : Int) (w : World) (hk : twoB p q = true) (hp : (p == 1) = false) (hs : s.size ≤ 1048576) (ho : s.size % 2 = 1) :
    Calls Tryd.prog 28 #[.int .i64 p, .int .i64 q, .string s, .int .i64 limit] w fun e w' => e = .returned (.tuple #[.string ⟨#[]⟩, .int .i64 0, .int .i64 6]) ∧ Below w.heap.size w w' := by
  have K := Lib.hid (fun w => known15 p q w)
  rw [hk, Bool.true_or] at K
  clear hk
  have ho' : (s.size : Int) % 2 = 1 := by omega
  go_enter Tryd.func28, Tryd.ntmps28
  go_wp2_with (go_at_call 50; refine (K.out _).mono ?_; rintro e w' ⟨rfl, rfl⟩)
  go_ret3
  exact ⟨rfl, Below.refl _ _⟩

set_option maxRecDepth 100000 in
set_option maxHeartbeats 1000000 in
theorem tell9_two (p q : Int) (s : ByteArray) (limit : Int) (w : World) (r : List UInt8 × Bool × Bool × Bool) (hk : twoB p q = true) (hp : (p == 1) = false) (hs : s.size ≤ 1048576) (ho : s.size % 2 = 0) (ht : Tab w) (hr : tell limit (letters firstW s.size s.data.toList) [] false false = r) :
    Calls Tryd.prog 28 #[.int .i64 p, .int .i64 q, .string s, .int .i64 limit] w fun e w' => e = .returned (.tuple #[.string ⟨r.1.toArray⟩, .int .i64 (markN r.2.1 r.2.2.1 r.2.2.2), .int .i64 0]) ∧ Below w.heap.size w w' := by
  have K := Lib.hid (fun w => known15 p q w)
  rw [hk, Bool.true_or] at K
  have S := Lib.hid (showW s limit w r hs ho ht hr)
  clear hk hr
  have ho' : (s.size : Int) % 2 = 0 := by omega
  go_enter Tryd.func28, Tryd.ntmps28
  go_wp2_with (first | (go_at_call 50; refine (K.out _).mono ?_; rintro e w' ⟨rfl, rfl⟩) | (go_at_call 51; refine S.out.mono ?_; rintro e w' ⟨rfl, hb⟩))
  go_ret3
  exact ⟨rfl, hb⟩

theorem tell9 (p q : Int) (s : ByteArray) (limit : Int) (w : World) (hs : s.size ≤ 1048576) (ht : Tab w) :
    Calls Tryd.prog 28 #[.int .i64 p, .int .i64 q, .string s, .int .i64 limit] w fun e w' => e = .returned (.tuple #[.string ⟨(textOf p q s.data.toList limit).1.toArray⟩, .int .i64 (textOf p q s.data.toList limit).2.1, .int .i64 (textOf p q s.data.toList limit).2.2]) ∧ Below w.heap.size w w' := by
  have hl : s.data.toList.length = s.size := by simp
  unfold textOf
  rw [hl]
  cases h2 : twoB p q
  · cases h1 : oneB p q
    · exact tell9_no p q s limit w (by rw [h1, h2]; rfl)
    · have hp : p = 1 := by simp only [oneB, decide_eq_true_eq] at h1; exact h1.1
      subst hp
      exact tell9_one q s limit w _ h1 hs ht rfl
  · have hp : (p == 1) = false := by
      simp only [twoB, decide_eq_true_eq] at h2
      simp only [beq_eq_false_iff_ne]
      omega
    by_cases ho : s.size % 2 = 1
    · rw [if_pos ho]
      exact tell9_bad p q s limit w h2 hp hs ho
    · rw [if_neg ho]
      exact tell9_two p q s limit w _ h2 hp hs (by omega) ht rfl

set_option maxRecDepth 100000 in
set_option maxHeartbeats 1000000 in
theorem text5 (p q : Int) (s : ByteArray) (limit : Int) (w : World) (r : List UInt8 × Int × Int) (hs : s.size ≤ 1048576) (ht : Tab w) (hr : textOf p q s.data.toList limit = r) :
    Calls Tryd.prog 9 #[.int .i64 p, .int .i64 q, .string s, .int .i64 limit] w fun e w' => e = .returned (.tuple #[.string ⟨r.1.toArray⟩, .int .i64 r.2.1, .int .i64 r.2.2]) ∧ Below w.heap.size w w' := by
  have S := Lib.hid (tell9 p q s limit w hs ht)
  rw [hr] at S
  clear hr
  go_enter Tryd.func9, Tryd.ntmps9
  go_wp2_with (go_at_call 28; refine S.out.mono ?_; rintro e w' ⟨rfl, hb⟩)
  go_ret3
  exact ⟨rfl, hb⟩
end Go.Proofs.YteibjmlimcpaoaaDoor.T
