/-
  What report.writer's method report leaves: the bytes of a right report.
-/
import Derived.Test.YteibjmlimcpaoaaDoorEWt
set_option linter.unusedVariables false
set_option linter.unusedSimpArgs false
namespace Go.Proofs.YteibjmlimcpaoaaDoor
open Go.RowKit Go.Sort

def tabL (t : Tab) : List UInt8 := t.tag.data.toList ++ oneL t.st.toNat ++ twoL t.sz.toNat
theorem tabsGo_all : ∀ (l : List Tab) (acc : List UInt8), (∀ t ∈ l, tabOk t = true) → tabsGo l acc = (acc ++ l.flatMap tabL, true)
  | [], acc, _ => by simp [tabsGo]
  | t :: r, acc, h => by
    rw [tabsGo, if_pos (h t (by simp)), tabsGo_all r _ (fun x hx => h x (by simp [hx]))]
    simp [tabL]
theorem nmsGo_all : ∀ (l : List Nm) (acc : List UInt8), (∀ t ∈ l, nmOk t = true) → nmsGo l acc = (acc ++ l.flatMap nmL, true)
  | [], acc, _ => by simp [nmsGo]
  | t :: r, acc, h => by
    rw [nmsGo, if_pos (h t (by simp)), nmsGo_all r _ (fun x hx => h x (by simp [hx]))]
    simp

set_option maxRecDepth 100000 in
set_option maxHeartbeats 4000000 in
theorem wreport (B b : Nat) (kind hs hf hu rs rv rb nm cs cf cc : Nat) (T N : Value) (lt : List Tab) (ln : List Nm) (l : List UInt8) (w : World) (hBw : B ≤ w.heap.size)
    (q1 : kind < 256) (q2 : hs < 256) (q3 : hf < 65536) (q4 : hu < 65536) (q5 : rs < 256) (q6 : rv < 65536) (q7 : rb < 65536) (q8 : nm < 256) (q9 : cs < 256) (q10 : cf < 65536) (q11 : cc < 4294967296)
    (hlt : lt.length ≤ 16) (hln : ln.length ≤ 20) (okt : ∀ t ∈ lt, tabOk t = true) (okn : ∀ x ∈ ln, nmOk x = true)
    (hT : ∀ w', Below B w w' → RowIs w' T lt.length (tcells lt)) (hN : ∀ w', Below B w w' → RowIs w' N ln.length (ncells ln)) (h : WrAt B b l w) (hl : l.length ≤ 1000) (r : List UInt8)
    (hr : l ++ oneL kind ++ oneL lt.length ++ lt.flatMap tabL ++ oneL hs ++ twoL hf ++ twoL hu ++ oneL rs ++ twoL rv ++ twoL rb ++ oneL nm ++ oneL ln.length ++ ln.flatMap nmL ++ oneL cs ++ twoL cf ++ fourL cc = r) :
    Calls Tryd.prog 57 #[.pointer (some ⟨b, 0, none⟩), .agg #[.int .i64 kind, T, .int .i64 hs, .int .i64 hf, .int .i64 hu, .int .i64 rs, .int .i64 rv, .int .i64 rb, .int .i64 nm, N, .int .i64 cs, .int .i64 cf, .int .i64 cc]] w
      fun e w' => e = .returned (.tuple #[]) ∧ WrAt B b r w' ∧ Below B w w' := by
  have HR := Lib.hid hr
  clear hr
  have two : ∀ n, (twoL n).length = 2 := fun _ => rfl
  have one : ∀ n, (oneL n).length = 1 := fun _ => rfl
  have hbl := wr_lt h
  have HT := Lib.hid hT
  have HN := Lib.hid hN
  have hTs : ∃ ao cap, T = .slice ao lt.length cap := by obtain ⟨ao, cap, h, _⟩ := hT w (Below.refl _ _); exact ⟨_, _, h⟩
  have hNs : ∃ ao cap, N = .slice ao ln.length cap := by obtain ⟨ao, cap, h, _⟩ := hN w (Below.refl _ _); exact ⟨_, _, h⟩
  obtain ⟨tao, tcap, hTe⟩ := hTs
  obtain ⟨nao, ncap, hNe⟩ := hNs
  subst hTe hNe
  clear hT hN
  have W1 := Lib.hid (fun n (l : List UInt8) w (hn : n < 256) (hl : l.length ≤ 1000000) (h : WrAt B b l w) => wone B b n l w hn h (by omega))
  have W2 := Lib.hid (fun n (l : List UInt8) w (hn : n < 65536) (hl : l.length ≤ 1000000) (h : WrAt B b l w) => wtwo B b n l w (by omega) h (by omega))
  obtain ⟨CS, hCS⟩ : ∃ CS : Array Value, #[.int .i64 kind, .slice tao lt.length tcap, .int .i64 hs, .int .i64 hf, .int .i64 hu, .int .i64 rs, .int .i64 rv, .int .i64 rb, .int .i64 nm, .slice nao ln.length ncap, .int .i64 cs, .int .i64 cf, .int .i64 cc] = CS := ⟨_, rfl⟩
  have hCSH := Lib.hid hCS
  have g0 := wr_alloc h (.cells CS 37)
  have a0 := allocAt w (.cells CS 37)
  have b0 : Below B w (w.alloc (.cells CS 37)) := (Below.refl _ _).alloc hBw _
  rw [← hCS] at g0 a0 b0
  clear hCS
  go_enter Tryd.func57, Tryd.ntmps57
  go_wp2_with (go_at_call 82; refine (W1.out kind l _ q1 (by omega) g0).mono ?_; rintro e w1 ⟨rfl, g1, b1, k1⟩; refine Hid.out ?_)
  have a1 := keptAt k1 a0 (by decide) (by omega)
  have x := cellsAt a1 1
  simp only [List.getElem?_toArray, List.getElem?_cons_zero, List.getElem?_cons_succ] at x
  refine Lib.hid ?_
  go_wp2_with (go_at_call 82; refine (W1.out lt.length _ _ (by omega) ?_ g1).mono ?_)
  · simp only [List.length_append, one, two]; omega
  rintro e w2 ⟨rfl, g2, b2, k2⟩
  refine Hid.out ?_
  clear x
  have a2 := keptAt k2 a1 (by decide) (by omega)
  have x := cellsAt a2 1
  simp only [List.getElem?_toArray, List.getElem?_cons_zero, List.getElem?_cons_succ] at x
  have bw2 := b0.trans (b1.trans b2)
  obtain ⟨L2, hL2⟩ : ∃ L2, l ++ oneL kind ++ oneL lt.length = L2 := ⟨_, rfl⟩
  have l2 : L2.length = l.length + 2 := by rw [← hL2]; simp only [List.length_append, one, two]
  rw [hL2] at g2
  have HL2 := Lib.hid hL2
  have hbne : w.heap.size ≠ b := by omega
  clear hL2 g1 g0 a0 a1 b0 b1 b2 k1 k2 h hbl
  refine Lib.hid ?_
  go_wp2
  go_loopw [20] (fun is wr => ∃ (k : Nat), is = .int .i64 k ∧ k ≤ lt.length ∧ Below B w wr ∧ wr.heap[w.heap.size]? = some (.cells #[.int .i64 kind, .slice tao lt.length tcap, .int .i64 hs, .int .i64 hf, .int .i64 hu, .int .i64 rs, .int .i64 rv, .int .i64 rb, .int .i64 nm, .slice nao ln.length ncap, .int .i64 cs, .int .i64 cf, .int .i64 cc] 37 (0, 0)) ∧ WrAt B b (L2 ++ (lt.take k).flatMap tabL) wr ∧ ((lt.take k).flatMap tabL).length = 7 * k) (fun is _ => lt.length - (intOf is).toNat)
  case atStart => exact ⟨0, rfl, Nat.zero_le _, bw2, a2, by simpa using g2, rfl⟩
  case round =>
    clear x
    obtain ⟨k, rfl, hk, hbw, ar, gr, hlk⟩ := hrel
    by_cases hklt : k < lt.length
    · obtain ⟨_, _, hao, hcell⟩ := HT.out _ hbw
      cases hao
      obtain ⟨g, o, rfl, hcl⟩ := hcell (by omega)
      obtain ⟨⟨tag, st, sz⟩, hx⟩ : ∃ x, lt[k]? = some x := ⟨_, List.getElem?_eq_getElem hklt⟩
      obtain ⟨t0, t1, t2⟩ := tcells_at lt k _ hx
      have c0 := hcl _ _ t0
      have c1 := hcl _ _ t1
      have c2 := hcl _ _ t2
      simp only at c0 c1 c2
      rw [← Nat.add_assoc] at c1 c2
      have hok := okt _ (List.mem_of_getElem? hx)
      simp only [tabOk, Bool.and_eq_true, decide_eq_true_eq] at hok
      obtain ⟨⟨o1, o2⟩, o3⟩ := hok
      obtain ⟨sn, rfl, e2⟩ := toB_nat o2
      obtain ⟨zn, rfl, e3⟩ := toB_nat o3
      have htk : (lt.take (k + 1)).flatMap tabL = (lt.take k).flatMap tabL ++ tag.data.toList ++ oneL sn ++ twoL zn := by
        rw [List.take_add_one, hx]; simp [tabL]
      have tl : tag.data.toList.length = 4 := by simp [o1]
      clear hcell hcl t0 t1 t2 hx o2 o3
      have WT := Lib.hid (fun w1 (hB1 : B ≤ w1.heap.size) (h1 : WrAt B b (L2 ++ (lt.take k).flatMap tabL) w1) => wtable B b tag sn zn _ w1 hB1 o1 (by omega) (by omega) h1 (by rw [List.length_append]; omega))
      have HTK := Lib.hid htk
      have HTL := Lib.hid tl
      have hsz := hbw.size
      clear htk tl o1 e2 e3
      go_wp2_with (go_at_call 83; refine (WT.out _ (by simp; omega) (wr_alloc gr _)).mono ?_; rintro e w9 ⟨rfl, g9, b9, k9⟩; refine Hid.out ?_)
      have a9 := keptAt k9 ((Lib.alloc_old wr _ _ (Array.getElem?_eq_some_iff.1 ar).1).trans ar) (by decide) hbne
      have bw9 : Below B w w9 := (hbw.alloc (by omega) _).trans b9
      clear b9 k9 ar gr hbw c0 c1 c2
      refine Lib.hid ?_
      go_wp2
      refine ⟨⟨k + 1, by go_num, by omega, bw9, a9, ?_, ?_⟩, by simp [intOf]; omega⟩
      · rw [HTK.out]
        simpa only [List.append_assoc] using g9
      · rw [HTK.out]
        simp only [List.length_append, one, two]
        have := HTL.out
        omega
    · have hke : lt.take k = lt := List.take_of_length_le (by omega)
      rw [hke] at gr hlk
      obtain ⟨L3, hL3⟩ : ∃ L3, L2 ++ lt.flatMap tabL = L3 := ⟨_, rfl⟩
      have l3 : L3.length ≤ l.length + 2 + 112 := by rw [← hL3]; simp only [List.length_append]; omega
      rw [hL3] at gr
      have HL3 := Lib.hid hL3
      clear hke hL3 hlk
      have hge : ¬ ((k : Int) < (lt.length : Int)) := by omega
      have ar0 := ar
      have gr0 := gr
      have bwq0 := hbw
      clear ar gr hbw
      have x := cellsAt ar0 2
      simp only [List.getElem?_toArray, List.getElem?_cons_zero, List.getElem?_cons_succ] at x
      go_wp2_with (go_at_call 82; refine (W1.out hs L3 _ q2 (by omega) gr0).mono ?_; rintro e u1 ⟨rfl, gr1, bu, ku⟩; refine Hid.out ?_)
      clear x
      have ar1 := keptAt ku ar0 (by decide) hbne
      have bwq1 := bwq0.trans bu
      obtain ⟨M1, hLn⟩ : ∃ X, L3 ++ oneL hs = X := ⟨_, rfl⟩
      have lM1 : M1.length ≤ L3.length + 2 := by rw [← hLn]; simp only [List.length_append, one, two]; omega
      rw [hLn] at gr1
      have HM1 := Lib.hid hLn
      clear hLn bu ku ar0 gr0 bwq0
      refine Lib.hid ?_
      have x := cellsAt ar1 3
      simp only [List.getElem?_toArray, List.getElem?_cons_zero, List.getElem?_cons_succ] at x
      go_wp2_with (go_at_call 84; refine (W2.out hf M1 _ q3 (by omega) gr1).mono ?_; rintro e u2 ⟨rfl, gr2, bu, ku⟩; refine Hid.out ?_)
      clear x
      have ar2 := keptAt ku ar1 (by decide) hbne
      have bwq2 := bwq1.trans bu
      obtain ⟨M2, hLn⟩ : ∃ X, M1 ++ twoL hf = X := ⟨_, rfl⟩
      have lM2 : M2.length ≤ M1.length + 2 := by rw [← hLn]; simp only [List.length_append, one, two]; omega
      rw [hLn] at gr2
      have HM2 := Lib.hid hLn
      clear hLn bu ku ar1 gr1 bwq1
      refine Lib.hid ?_
      have x := cellsAt ar2 4
      simp only [List.getElem?_toArray, List.getElem?_cons_zero, List.getElem?_cons_succ] at x
      go_wp2_with (go_at_call 84; refine (W2.out hu M2 _ q4 (by omega) gr2).mono ?_; rintro e u3 ⟨rfl, gr3, bu, ku⟩; refine Hid.out ?_)
      clear x
      have ar3 := keptAt ku ar2 (by decide) hbne
      have bwq3 := bwq2.trans bu
      obtain ⟨M3, hLn⟩ : ∃ X, M2 ++ twoL hu = X := ⟨_, rfl⟩
      have lM3 : M3.length ≤ M2.length + 2 := by rw [← hLn]; simp only [List.length_append, one, two]; omega
      rw [hLn] at gr3
      have HM3 := Lib.hid hLn
      clear hLn bu ku ar2 gr2 bwq2
      refine Lib.hid ?_
      have x := cellsAt ar3 5
      simp only [List.getElem?_toArray, List.getElem?_cons_zero, List.getElem?_cons_succ] at x
      go_wp2_with (go_at_call 82; refine (W1.out rs M3 _ q5 (by omega) gr3).mono ?_; rintro e u4 ⟨rfl, gr4, bu, ku⟩; refine Hid.out ?_)
      clear x
      have ar4 := keptAt ku ar3 (by decide) hbne
      have bwq4 := bwq3.trans bu
      obtain ⟨M4, hLn⟩ : ∃ X, M3 ++ oneL rs = X := ⟨_, rfl⟩
      have lM4 : M4.length ≤ M3.length + 2 := by rw [← hLn]; simp only [List.length_append, one, two]; omega
      rw [hLn] at gr4
      have HM4 := Lib.hid hLn
      clear hLn bu ku ar3 gr3 bwq3
      refine Lib.hid ?_
      have x := cellsAt ar4 6
      simp only [List.getElem?_toArray, List.getElem?_cons_zero, List.getElem?_cons_succ] at x
      go_wp2_with (go_at_call 84; refine (W2.out rv M4 _ q6 (by omega) gr4).mono ?_; rintro e u5 ⟨rfl, gr5, bu, ku⟩; refine Hid.out ?_)
      clear x
      have ar5 := keptAt ku ar4 (by decide) hbne
      have bwq5 := bwq4.trans bu
      obtain ⟨M5, hLn⟩ : ∃ X, M4 ++ twoL rv = X := ⟨_, rfl⟩
      have lM5 : M5.length ≤ M4.length + 2 := by rw [← hLn]; simp only [List.length_append, one, two]; omega
      rw [hLn] at gr5
      have HM5 := Lib.hid hLn
      clear hLn bu ku ar4 gr4 bwq4
      refine Lib.hid ?_
      have x := cellsAt ar5 7
      simp only [List.getElem?_toArray, List.getElem?_cons_zero, List.getElem?_cons_succ] at x
      go_wp2_with (go_at_call 84; refine (W2.out rb M5 _ q7 (by omega) gr5).mono ?_; rintro e u6 ⟨rfl, gr6, bu, ku⟩; refine Hid.out ?_)
      clear x
      have ar6 := keptAt ku ar5 (by decide) hbne
      have bwq6 := bwq5.trans bu
      obtain ⟨M6, hLn⟩ : ∃ X, M5 ++ twoL rb = X := ⟨_, rfl⟩
      have lM6 : M6.length ≤ M5.length + 2 := by rw [← hLn]; simp only [List.length_append, one, two]; omega
      rw [hLn] at gr6
      have HM6 := Lib.hid hLn
      clear hLn bu ku ar5 gr5 bwq5
      refine Lib.hid ?_
      have x := cellsAt ar6 8
      simp only [List.getElem?_toArray, List.getElem?_cons_zero, List.getElem?_cons_succ] at x
      go_wp2_with (go_at_call 82; refine (W1.out nm M6 _ q8 (by omega) gr6).mono ?_; rintro e u7 ⟨rfl, gr7, bu, ku⟩; refine Hid.out ?_)
      clear x
      have ar7 := keptAt ku ar6 (by decide) hbne
      have bwq7 := bwq6.trans bu
      obtain ⟨M7, hLn⟩ : ∃ X, M6 ++ oneL nm = X := ⟨_, rfl⟩
      have lM7 : M7.length ≤ M6.length + 2 := by rw [← hLn]; simp only [List.length_append, one, two]; omega
      rw [hLn] at gr7
      have HM7 := Lib.hid hLn
      clear hLn bu ku ar6 gr6 bwq6
      refine Lib.hid ?_
      have x := cellsAt ar7 9
      simp only [List.getElem?_toArray, List.getElem?_cons_zero, List.getElem?_cons_succ] at x
      go_wp2_with (go_at_call 82; refine (W1.out ln.length M7 _ (by omega) (by omega) gr7).mono ?_; rintro e u8 ⟨rfl, gr8, bu, ku⟩; refine Hid.out ?_)
      clear x
      have ar8 := keptAt ku ar7 (by decide) hbne
      have bwq8 := bwq7.trans bu
      obtain ⟨M8, hLn⟩ : ∃ X, M7 ++ oneL ln.length = X := ⟨_, rfl⟩
      have lM8 : M8.length ≤ M7.length + 2 := by rw [← hLn]; simp only [List.length_append, one, two]; omega
      rw [hLn] at gr8
      have HM8 := Lib.hid hLn
      clear hLn bu ku ar7 gr7 bwq7
      refine Lib.hid ?_
      have x := cellsAt ar8 9
      simp only [List.getElem?_toArray, List.getElem?_cons_zero, List.getElem?_cons_succ] at x
      go_wp2
      clear x
      go_loopw [70] (fun is wr' => ∃ (k : Nat), is = .int .i64 k ∧ k ≤ ln.length ∧ Below B w wr' ∧ wr'.heap[w.heap.size]? = some (.cells #[.int .i64 kind, .slice tao lt.length tcap, .int .i64 hs, .int .i64 hf, .int .i64 hu, .int .i64 rs, .int .i64 rv, .int .i64 rb, .int .i64 nm, .slice nao ln.length ncap, .int .i64 cs, .int .i64 cf, .int .i64 cc] 37 (0, 0)) ∧ WrAt B b (M8 ++ (ln.take k).flatMap nmL) wr' ∧ ((ln.take k).flatMap nmL).length ≤ 71 * k) (fun is _ => ln.length - (intOf is).toNat)
      case atStart => exact ⟨0, rfl, Nat.zero_le _, bwq8, ar8, by simpa using gr8, by simp⟩
      case round =>
        clear ar8 gr8 bwq8
        obtain ⟨j, rfl, hj, hbw, ar, gr, hlj⟩ := hrel
        by_cases hjlt : j < ln.length
        · obtain ⟨_, _, hao, hcell⟩ := HN.out _ hbw
          cases hao
          obtain ⟨g, o, rfl, hcl⟩ := hcell (by omega)
          obtain ⟨⟨pl, en, la, id, st, ms, tx⟩, hx⟩ : ∃ x, ln[j]? = some x := ⟨_, List.getElem?_eq_getElem hjlt⟩
          obtain ⟨t0, t1, t2, t3, t4, t5, t6⟩ := ncells_at ln j _ hx
          have c0 := hcl _ _ t0
          have c1 := hcl _ _ t1
          have c2 := hcl _ _ t2
          have c3 := hcl _ _ t3
          have c4 := hcl _ _ t4
          have c5 := hcl _ _ t5
          have c6 := hcl _ _ t6
          simp only at c0 c1 c2 c3 c4 c5 c6
          rw [← Nat.add_assoc] at c1 c2 c3 c4 c5 c6
          have hok := okn _ (List.mem_of_getElem? hx)
          simp only [nmOk, Bool.and_eq_true] at hok
          obtain ⟨⟨⟨⟨⟨⟨o1, o2⟩, o3⟩, o4⟩, o5⟩, o6⟩, o7⟩ := hok
          have o8 := properB_size tx o7
          obtain ⟨pl, rfl, e1⟩ := toB_nat o1
          obtain ⟨en, rfl, e2⟩ := toB_nat o2
          obtain ⟨la, rfl, e3⟩ := toB_nat o3
          obtain ⟨id, rfl, e4⟩ := toB_nat o4
          obtain ⟨st, rfl, e5⟩ := toB_nat o5
          obtain ⟨ms, rfl, e6⟩ := toB_nat o6
          have htk : (ln.take (j + 1)).flatMap nmL = (ln.take j).flatMap nmL ++ twoL pl ++ twoL en ++ twoL la ++ twoL id ++ oneL st ++ oneL ms ++ oneL tx.size ++ tx.data.toList := by
            rw [List.take_add_one, hx]; simp [nmL]
          have tl : tx.data.toList.length ≤ 60 := by simpa using o8
          clear hcell hcl t0 t1 t2 t3 t4 t5 t6 hx o1 o2 o3 o4 o5 o6 o7
          have WN := Lib.hid (fun w1 (hB1 : B ≤ w1.heap.size) (h1 : WrAt B b (M8 ++ (ln.take j).flatMap nmL) w1) => wname B b pl en la id st ms tx _ w1 hB1 (by omega) (by omega) (by omega) (by omega) (by omega) (by omega) o8 h1 (by rw [List.length_append]; omega))
          have HTK := Lib.hid htk
          have HTL := Lib.hid tl
          have hsz := hbw.size
          clear htk tl e1 e2 e3 e4 e5 e6 o8
          go_wp2_with (go_at_call 85; refine (WN.out _ (by simp; omega) (wr_alloc gr _)).mono ?_; rintro e w9 ⟨rfl, g9, b9, k9⟩; refine Hid.out ?_)
          have a9 := keptAt (T := 37) k9 ((Lib.alloc_old _ _ _ (Array.getElem?_eq_some_iff.1 ar).1).trans ar) (by decide) hbne
          have bw9 : Below B w w9 := (hbw.alloc (by omega) _).trans b9
          clear b9 k9 ar gr hbw c0 c1 c2 c3 c4 c5 c6
          refine Lib.hid ?_
          go_wp2
          refine ⟨⟨j + 1, by go_num, by omega, bw9, a9, ?_, ?_⟩, by simp [intOf]; omega⟩
          · rw [HTK.out]
            simpa only [List.append_assoc] using g9
          · rw [HTK.out]
            simp only [List.length_append, one, two]
            have := HTL.out
            omega
        · have hke : ln.take j = ln := List.take_of_length_le (by omega)
          rw [hke] at gr hlj
          obtain ⟨M9, hM9⟩ : ∃ X, M8 ++ ln.flatMap nmL = X := ⟨_, rfl⟩
          have l9 : M9.length ≤ M8.length + 71 * 20 := by rw [← hM9]; simp only [List.length_append]; omega
          rw [hM9] at gr
          have HM9 := Lib.hid hM9
          clear hke hM9 hlj
          have hge : ¬ ((j : Int) < (ln.length : Int)) := by omega
          have x := cellsAt ar 10
          simp only [List.getElem?_toArray, List.getElem?_cons_zero, List.getElem?_cons_succ] at x
          go_wp2_with (go_at_call 82; refine (W1.out cs M9 _ q9 (by omega) gr).mono ?_; rintro e v1 ⟨rfl, g1, bu1, ku1⟩; refine Hid.out ?_)
          clear x
          have ar1 := keptAt ku1 ar (by decide) hbne
          have x := cellsAt ar1 11
          simp only [List.getElem?_toArray, List.getElem?_cons_zero, List.getElem?_cons_succ] at x
          refine Lib.hid ?_
          go_wp2_with (go_at_call 84; refine (W2.out cf _ _ q10 ?_ g1).mono ?_)
          · simp only [List.length_append, one, two]; omega
          rintro e v2 ⟨rfl, g2, bu2, ku2⟩
          refine Hid.out ?_
          clear x
          have ar2 := keptAt ku2 ar1 (by decide) hbne
          have x := cellsAt ar2 12
          simp only [List.getElem?_toArray, List.getElem?_cons_zero, List.getElem?_cons_succ] at x
          refine Lib.hid ?_
          go_wp2_with (go_at_call 86; refine (wfour B b cc _ _ q11 g2 ?_).mono ?_)
          · simp only [List.length_append, one, two]; omega
          rintro e v3 ⟨rfl, g3, bu3, ku3⟩
          clear x
          go_wp2
          go_end0
          refine ⟨rfl, ?_, hbw.trans (bu1.trans (bu2.trans bu3))⟩
          rw [← HR.out]
          rw [← HM9.out, ← HM8.out, ← HM7.out, ← HM6.out, ← HM5.out, ← HM4.out, ← HM3.out, ← HM2.out, ← HM1.out, ← HL3.out, ← HL2.out] at g3
          exact g3
end Go.Proofs.YteibjmlimcpaoaaDoor
