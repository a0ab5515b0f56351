/-
  What visorref.Encode answers, for every report wherever its lists lie; nothing that lay in memory turns.
-/
import Derived.Test.YteibjmlimcpaoaaDoorNames
set_option linter.unusedVariables false
set_option linter.unusedSimpArgs false
namespace Go.Proofs.YteibjmlimcpaoaaDoor
open Go.RowKit Go.Sort

theorem tables15 (v : Value) (l : List Tab) (w : World) (hl : l.length ≤ 9223372036854775807) (hv : RowIs w v l.length (tcells l)) :
    Calls Tryd.prog 35 #[v] w fun e w' => e = .returned (.tuple #[.string ⟨(tabsR l).1.toArray⟩, .bool (tabsR l).2]) ∧ Below w.heap.size w w' := by
  unfold tabsR
  by_cases h : 16 < l.length
  · rw [if_pos h]
    exact tables15_big v l w hl h hv
  · rw [if_neg h]
    exact tables15_small v l w _ (by omega) hv rfl
theorem names16 (v : Value) (l : List Nm) (w : World) (hl : l.length ≤ 9223372036854775807) (htx : ∀ x ∈ l, x.tx.size ≤ 9223372036854775807) (hv : RowIs w v l.length (ncells l)) :
    Calls Tryd.prog 36 #[v] w fun e w' => e = .returned (.tuple #[.string ⟨(nmsR l).1.toArray⟩, .bool (nmsR l).2]) ∧ Below w.heap.size w w' := by
  unfold nmsR
  by_cases h : 20 < l.length
  · rw [if_pos h]
    exact names16_big v l w hl h hv
  · rw [if_neg h]
    exact names16_small v l w _ (by omega) htx hv rfl
theorem tabsGo_length : ∀ (l : List Tab) (acc : List UInt8), (tabsGo l acc).1.length ≤ acc.length + 7 * l.length
  | [], acc => by simp [tabsGo]
  | t :: r, acc => by
    rw [tabsGo]
    split
    · rename_i h
      have h4 : t.tag.size = 4 := by
        simp only [tabOk, Bool.and_eq_true, decide_eq_true_eq] at h
        exact h.1.1
      have h9 := tabsGo_length r (acc ++ t.tag.data.toList ++ oneL t.st.toNat ++ twoL t.sz.toNat)
      have e3 : t.tag.data.toList.length = t.tag.size := by simp
      have e4 : (acc ++ t.tag.data.toList ++ oneL t.st.toNat ++ twoL t.sz.toNat).length = acc.length + 7 := by
        simp only [List.length_append, oneL, twoL, List.length_cons, List.length_nil]
        omega
      simp only [List.length_cons]
      omega
    · simp
theorem tabsR_length (l : List Tab) : (tabsR l).1.length ≤ 200 := by
  unfold tabsR
  split
  · simp
  · have := tabsGo_length l (oneL l.length)
    have e : (oneL l.length).length = 1 := rfl
    omega
theorem nmsGo_length : ∀ (l : List Nm) (acc : List UInt8), (nmsGo l acc).1.length ≤ acc.length + 71 * l.length
  | [], acc => by simp [nmsGo]
  | x :: r, acc => by
    rw [nmsGo]
    split
    · rename_i h
      have h6 : x.tx.size ≤ 60 := by
        simp only [nmOk, Bool.and_eq_true] at h
        exact properB_size _ h.2
      have h9 := nmsGo_length r (acc ++ nmL x)
      have e3 : x.tx.data.toList.length = x.tx.size := by simp
      have e4 : (acc ++ nmL x).length ≤ acc.length + 71 := by
        simp only [List.length_append, nmL, oneL, twoL, List.length_cons, List.length_nil]
        omega
      simp only [List.length_cons]
      omega
    · simp
theorem nmsR_length (l : List Nm) : (nmsR l).1.length ≤ 2000 := by
  unfold nmsR
  split
  · simp
  · have := nmsGo_length l (oneL l.length)
    have e : (oneL l.length).length = 1 := rfl
    omega

def fourBA (n : Nat) : ByteArray := ⟨(fourL n).toArray⟩
theorem fourBA_size (n : Nat) : (fourBA n).size = 4 := rfl
theorem four20B (n : Nat) (hn : n < 4294967296) (w : World) (d : Nat) (os : Array Obj) : Calls Tryd.prog 40 #[.int .i64 (n : Int)] (grow (redrawn w d) os) fun e w'' => e = .returned (.string (fourBA n)) ∧ ∃ p : Regrown, w'' = grow (redrawn w p.d) p.os := Calls.regrown_of (four20 n _ hn)

theorem cellOn {w1 w2 : World} {g o : Nat} {u : Value} (h : w1.cell? ⟨g, o, none⟩ = some u) (hb : Below w1.heap.size w1 w2) : w2.cell? ⟨g, o, none⟩ = some u := by
  rw [hb.cell (p := ⟨g, o, none⟩) (cell_lt h)]
  exact h
theorem newAt {w w' : World} {cs : Array Value} {T : TypeId} (hb : Below (w.alloc (.cells cs T)).heap.size (w.alloc (.cells cs T)) w') (i : Nat) : w'.cell? ⟨w.heap.size, i, none⟩ = cs[i]? := by
  rw [hb.cell (p := ⟨w.heap.size, i, none⟩) (by simp), World.cell?_alloc_new]

def encOf (kind hs hf hu rs rv rb nm cs cf cc : Int) (t n : List UInt8 × Bool) : List UInt8 × Int :=
  if ((toB 3 kind && [hs, rs, nm, cs].all (toB 8)) && [hf, hu, rv, rb, cf].all (toB 65535)) && t.2 && n.2 && toB 1114112 cc then
    (oneL kind.toNat ++ t.1 ++ oneL hs.toNat ++ twoL hf.toNat ++ twoL hu.toNat ++ oneL rs.toNat ++ twoL rv.toNat ++ twoL rb.toNat ++ oneL nm.toNat ++ n.1 ++ oneL cs.toNat ++ twoL cf.toNat ++ fourL cc.toNat, 0)
  else ([], 5)

set_option maxRecDepth 100000 in
set_option maxHeartbeats 4000000 in
theorem encode7 (kind hs hf hu rs rv rb nm cs cf cc : Int) (T N : Value) (lt : List Tab) (ln : List Nm) (w : World)
    (hlt : lt.length ≤ 9223372036854775807) (hln : ln.length ≤ 9223372036854775807) (htx : ∀ x ∈ ln, x.tx.size ≤ 9223372036854775807) (hT : RowIs w T lt.length (tcells lt)) (hN : RowIs w N ln.length (ncells ln)) (r : List UInt8 × Int) (hr : encOf kind hs hf hu rs rv rb nm cs cf cc (tabsR lt) (nmsR ln) = r) :
    Calls Tryd.prog 15 #[.agg #[.int .i64 kind, T, .int .i64 hs, .int .i64 hf, .int .i64 hu, .int .i64 rs, .int .i64 rv, .int .i64 rb, .int .i64 nm, N, .int .i64 cs, .int .i64 cf, .int .i64 cc]] w fun e w' => e = .returned (.tuple #[.string ⟨r.1.toArray⟩, .int .i64 r.2]) ∧ Below w.heap.size w w' := by
  obtain ⟨ta, tb⟩ : ∃ x, tabsR lt = x := ⟨_, rfl⟩
  obtain ⟨na, nb⟩ : ∃ x, nmsR ln = x := ⟨_, rfl⟩
  have hl1 := tabsR_length lt
  have hl2 := nmsR_length ln
  rw [tb, nb] at hr
  have HR := Lib.hid hr
  clear hr
  rw [tb] at hl1
  rw [nb] at hl2
  have A := Lib.hid (fun w h => tables15 T lt w hlt h)
  have B := Lib.hid (fun w h => names16 N ln w hln htx h)
  rw [tb] at A
  rw [nb] at B
  obtain ⟨ta1, ta2⟩ := ta
  obtain ⟨na1, na2⟩ := na
  simp only at A B hl1 hl2
  have HT := Lib.hid hT
  have HN := Lib.hid hN
  have hTs : ∃ ao n cap, T = .slice ao n cap := by obtain ⟨ao, cap, h, _⟩ := hT; exact ⟨_, _, _, h⟩
  have hNs : ∃ ao n cap, N = .slice ao n cap := by obtain ⟨ao, cap, h, _⟩ := hN; exact ⟨_, _, _, h⟩
  obtain ⟨tao, tn, tcap, hTe⟩ := hTs
  obtain ⟨nao, nn, ncap, hNe⟩ := hNs
  subst hTe hNe
  clear hT hN tb nb
  go_enter Tryd.func15, Tryd.ntmps15
  go_wp2_with (go_at_call 35; refine (A.out _ (HT.out.on ((Below.refl _ _).alloc (Nat.le_refl _) _))).mono ?_; rintro e w1 ⟨rfl, hb1⟩; refine Hid.out ?_)
  have hbw1 := ((Below.refl w.heap.size w).alloc (Nat.le_refl _) (.cells #[.int .i64 kind, .slice tao tn tcap, .int .i64 hs, .int .i64 hf, .int .i64 hu, .int .i64 rs, .int .i64 rv, .int .i64 rb, .int .i64 nm, .slice nao nn ncap, .int .i64 cs, .int .i64 cf, .int .i64 cc] 37)).trans (hb1.mono (by simp))
  have d0 := newAt hb1 0
  have d1 := newAt hb1 1
  have d2 := newAt hb1 2
  have d3 := newAt hb1 3
  have d4 := newAt hb1 4
  have d5 := newAt hb1 5
  have d6 := newAt hb1 6
  have d7 := newAt hb1 7
  have d8 := newAt hb1 8
  have d9 := newAt hb1 9
  have d10 := newAt hb1 10
  have d11 := newAt hb1 11
  have d12 := newAt hb1 12
  simp only [List.getElem?_toArray, List.getElem?_cons_zero, List.getElem?_cons_succ] at d0 d1 d2 d3 d4 d5 d6 d7 d8 d9 d10 d11 d12
  refine Lib.hid ?_
  go_wp2_with (go_at_call 36; refine (B.out _ (HN.out.on hbw1)).mono ?_; rintro e w2 ⟨rfl, hb2⟩; refine Hid.out ?_)
  have hbw2 := hbw1.trans (hb2.mono hbw1.size)
  have f0 := cellOn d0 hb2
  have f1 := cellOn d1 hb2
  have f2 := cellOn d2 hb2
  have f3 := cellOn d3 hb2
  have f4 := cellOn d4 hb2
  have f5 := cellOn d5 hb2
  have f6 := cellOn d6 hb2
  have f7 := cellOn d7 hb2
  have f8 := cellOn d8 hb2
  have f9 := cellOn d9 hb2
  have f10 := cellOn d10 hb2
  have f11 := cellOn d11 hb2
  have f12 := cellOn d12 hb2
  refine Lib.hid ?_
  clear d0 d1 d2 d3 d4 d5 d6 d7 d8 d9 d10 d11 d12
  clear hb1 hb2 A B HT HN
  have hlt2 : w.heap.size < w2.heap.size := cell_lt f0
  have K3 := Lib.hid (fun w => to17 3 kind w)
  go_wp2_with (go_at_call 37; refine (K3.out _).mono ?_; rintro e w3 ⟨rfl, rfl⟩; refine Hid.out ?_)
  have hb3 : Below w2.heap.size w2 ((w2.alloc (.cells #[.int .i64 hs, .int .i64 rs, .int .i64 nm, .int .i64 cs] 3)).alloc (.cells #[.int .i64 hf, .int .i64 hu, .int .i64 rv, .int .i64 rb, .int .i64 cf] 3)) := ((Below.refl _ _).alloc (Nat.le_refl _) _).alloc (by simp) _
  have hbw3 := hbw2.trans (hb3.mono hbw2.size)
  obtain ⟨w3, hw3⟩ : ∃ w3, ((w2.alloc (.cells #[.int .i64 hs, .int .i64 rs, .int .i64 nm, .int .i64 cs] 3)).alloc (.cells #[.int .i64 hf, .int .i64 hu, .int .i64 rv, .int .i64 rb, .int .i64 cf] 3)) = w3 := ⟨_, rfl⟩
  have g0 : w3.cell? ⟨w2.heap.size, 0, none⟩ = some (.int .i64 hs) := by rw [← hw3]; simp
  have g1 : w3.cell? ⟨w2.heap.size, 1, none⟩ = some (.int .i64 rs) := by rw [← hw3]; simp
  have g2 : w3.cell? ⟨w2.heap.size, 2, none⟩ = some (.int .i64 nm) := by rw [← hw3]; simp
  have g3 : w3.cell? ⟨w2.heap.size, 3, none⟩ = some (.int .i64 cs) := by rw [← hw3]; simp
  have h0 : w3.cell? ⟨w2.heap.size + 1, 0, none⟩ = some (.int .i64 hf) := by rw [← hw3]; simp
  have h1 : w3.cell? ⟨w2.heap.size + 1, 1, none⟩ = some (.int .i64 hu) := by rw [← hw3]; simp
  have h2 : w3.cell? ⟨w2.heap.size + 1, 2, none⟩ = some (.int .i64 rv) := by rw [← hw3]; simp
  have h3 : w3.cell? ⟨w2.heap.size + 1, 3, none⟩ = some (.int .i64 rb) := by rw [← hw3]; simp
  have h4 : w3.cell? ⟨w2.heap.size + 1, 4, none⟩ = some (.int .i64 cf) := by rw [← hw3]; simp
  rw [hw3] at hb3 hbw3
  have x0 := cellOn f0 hb3
  have x1 := cellOn f1 hb3
  have x2 := cellOn f2 hb3
  have x3 := cellOn f3 hb3
  have x4 := cellOn f4 hb3
  have x5 := cellOn f5 hb3
  have x6 := cellOn f6 hb3
  have x7 := cellOn f7 hb3
  have x8 := cellOn f8 hb3
  have x9 := cellOn f9 hb3
  have x10 := cellOn f10 hb3
  have x11 := cellOn f11 hb3
  have x12 := cellOn f12 hb3
  obtain ⟨p1, hp1⟩ : ∃ p1, w2.heap.size = p1 := ⟨_, rfl⟩
  obtain ⟨p0, hp0⟩ : ∃ p0, w.heap.size = p0 := ⟨_, rfl⟩
  rw [hp1] at g0 g1 g2 g3 h0 h1 h2 h3 h4
  rw [hp0] at x0 x1 x2 x3 x4 x5 x6 x7 x8 x9 x10 x11 x12
  refine Lib.hid ?_
  rw [hw3, hp1, hp0]
  have HP := Lib.hid hp0
  clear hw3 hp1 hp0 hb3 hlt2 hbw1 hbw2 f0 f1 f2 f3 f4 f5 f6 f7 f8 f9 f10 f11 f12 K3
  have E0 := Lib.hid (fun w => to17 8 hs w)
  have E1 := Lib.hid (fun w => to17 8 rs w)
  have E2 := Lib.hid (fun w => to17 8 nm w)
  have E3 := Lib.hid (fun w => to17 8 cs w)
  go_wp2
  go_loopw [10, 11] (fun oks is wr => ∃ (k : Nat) (ok : Bool), oks = .bool ok ∧ is = .int .i64 k ∧ k ≤ 4 ∧ wr = w3 ∧ Hid (ok = (toB 3 kind && ([hs, rs, nm, cs].take k).all (toB 8)))) (fun _ is _ => 4 - (intOf is).toNat)
  case atStart => exact ⟨0, _, rfl, rfl, by omega, rfl, by show _ = _; simp⟩
  case round =>
    obtain ⟨k, ok, rfl, rfl, hk, rfl, HO⟩ := hrel
    have hk5 : k = 0 ∨ k = 1 ∨ k = 2 ∨ k = 3 ∨ k = 4 := by omega
    rcases hk5 with rfl | rfl | rfl | rfl | rfl
    · have KEY : Hid ((toB 3 kind && ([hs, rs, nm, cs].take 1).all (toB 8)) = ((toB 3 kind && ([hs, rs, nm, cs].take 0).all (toB 8)) && toB 8 hs)) := by show _ = _; simp [Bool.and_assoc]
      generalize toB 8 hs = b at *
      cases ok
      all_goals
        go_wp2_with (go_at_call 37; refine (E0.out _).mono ?_; rintro e w9 ⟨rfl, rfl⟩)
        refine ⟨⟨1, _, rfl, rfl, by omega, by first | rfl | trivial, ?_⟩, by simp [intOf]⟩
        show _ = _
        rw [KEY.out, ← HO.out]
        simp
    · have KEY : Hid ((toB 3 kind && ([hs, rs, nm, cs].take 2).all (toB 8)) = ((toB 3 kind && ([hs, rs, nm, cs].take 1).all (toB 8)) && toB 8 rs)) := by show _ = _; simp [Bool.and_assoc]
      generalize toB 8 rs = b at *
      cases ok
      all_goals
        go_wp2_with (go_at_call 37; refine (E1.out _).mono ?_; rintro e w9 ⟨rfl, rfl⟩)
        refine ⟨⟨2, _, rfl, rfl, by omega, by first | rfl | trivial, ?_⟩, by simp [intOf]⟩
        show _ = _
        rw [KEY.out, ← HO.out]
        simp
    · have KEY : Hid ((toB 3 kind && ([hs, rs, nm, cs].take 3).all (toB 8)) = ((toB 3 kind && ([hs, rs, nm, cs].take 2).all (toB 8)) && toB 8 nm)) := by show _ = _; simp [Bool.and_assoc]
      generalize toB 8 nm = b at *
      cases ok
      all_goals
        go_wp2_with (go_at_call 37; refine (E2.out _).mono ?_; rintro e w9 ⟨rfl, rfl⟩)
        refine ⟨⟨3, _, rfl, rfl, by omega, by first | rfl | trivial, ?_⟩, by simp [intOf]⟩
        show _ = _
        rw [KEY.out, ← HO.out]
        simp
    · have KEY : Hid ((toB 3 kind && ([hs, rs, nm, cs].take 4).all (toB 8)) = ((toB 3 kind && ([hs, rs, nm, cs].take 3).all (toB 8)) && toB 8 cs)) := by show _ = _; simp [Bool.and_assoc]
      generalize toB 8 cs = b at *
      cases ok
      all_goals
        go_wp2_with (go_at_call 37; refine (E3.out _).mono ?_; rintro e w9 ⟨rfl, rfl⟩)
        refine ⟨⟨4, _, rfl, rfl, by omega, by first | rfl | trivial, ?_⟩, by simp [intOf]⟩
        show _ = _
        rw [KEY.out, ← HO.out]
        simp
    · have ho := HO.out
      simp only [List.take] at ho
      obtain ⟨o1, ho1⟩ : ∃ o1, (toB 3 kind && [hs, rs, nm, cs].all (toB 8)) = o1 := ⟨_, rfl⟩
      rw [ho1] at ho
      subst ho
      have HO1 := Lib.hid ho1
      clear E0 E1 E2 E3 g0 g1 g2 g3 HO ho1
      have F0 := Lib.hid (fun w => to17 65535 hf w)
      have F1 := Lib.hid (fun w => to17 65535 hu w)
      have F2 := Lib.hid (fun w => to17 65535 rv w)
      have F3 := Lib.hid (fun w => to17 65535 rb w)
      have F4 := Lib.hid (fun w => to17 65535 cf w)
      go_wp2
      go_loopw [10, 13] (fun oks is wr' => ∃ (k : Nat) (ok2 : Bool), oks = .bool ok2 ∧ is = .int .i64 k ∧ k ≤ 5 ∧ wr' = wr ∧ Hid (ok2 = (ok && ([hf, hu, rv, rb, cf].take k).all (toB 65535)))) (fun _ is _ => 5 - (intOf is).toNat)
      case atStart => exact ⟨0, _, rfl, rfl, by omega, rfl, by show _ = _; simp⟩
      case round =>
        obtain ⟨k, ok2, rfl, rfl, hk, rfl, HO⟩ := hrel
        have hk5 : k = 0 ∨ k = 1 ∨ k = 2 ∨ k = 3 ∨ k = 4 ∨ k = 5 := by omega
        rcases hk5 with rfl | rfl | rfl | rfl | rfl | rfl
        · have KEY : Hid ((ok && ([hf, hu, rv, rb, cf].take 1).all (toB 65535)) = ((ok && ([hf, hu, rv, rb, cf].take 0).all (toB 65535)) && toB 65535 hf)) := by show _ = _; simp [Bool.and_assoc]
          generalize toB 65535 hf = b at *
          cases ok2
          all_goals
            go_wp2_with (go_at_call 37; refine (F0.out _).mono ?_; rintro e w9 ⟨rfl, rfl⟩)
            refine ⟨⟨_, _, _, _, _, _, _, _, _, _, _, _, _, _, _, _, _, _, ?_, rfl⟩, ?_⟩
            · refine ⟨1, _, rfl, rfl, by omega, trivial, ?_⟩
              show _ = _
              rw [KEY.out, ← HO.out]
              simp
            · simp [intOf]
        · have KEY : Hid ((ok && ([hf, hu, rv, rb, cf].take 2).all (toB 65535)) = ((ok && ([hf, hu, rv, rb, cf].take 1).all (toB 65535)) && toB 65535 hu)) := by show _ = _; simp [Bool.and_assoc]
          generalize toB 65535 hu = b at *
          cases ok2
          all_goals
            go_wp2_with (go_at_call 37; refine (F1.out _).mono ?_; rintro e w9 ⟨rfl, rfl⟩)
            refine ⟨⟨_, _, _, _, _, _, _, _, _, _, _, _, _, _, _, _, _, _, ?_, rfl⟩, ?_⟩
            · refine ⟨2, _, rfl, rfl, by omega, trivial, ?_⟩
              show _ = _
              rw [KEY.out, ← HO.out]
              simp
            · simp [intOf]
        · have KEY : Hid ((ok && ([hf, hu, rv, rb, cf].take 3).all (toB 65535)) = ((ok && ([hf, hu, rv, rb, cf].take 2).all (toB 65535)) && toB 65535 rv)) := by show _ = _; simp [Bool.and_assoc]
          generalize toB 65535 rv = b at *
          cases ok2
          all_goals
            go_wp2_with (go_at_call 37; refine (F2.out _).mono ?_; rintro e w9 ⟨rfl, rfl⟩)
            refine ⟨⟨_, _, _, _, _, _, _, _, _, _, _, _, _, _, _, _, _, _, ?_, rfl⟩, ?_⟩
            · refine ⟨3, _, rfl, rfl, by omega, trivial, ?_⟩
              show _ = _
              rw [KEY.out, ← HO.out]
              simp
            · simp [intOf]
        · have KEY : Hid ((ok && ([hf, hu, rv, rb, cf].take 4).all (toB 65535)) = ((ok && ([hf, hu, rv, rb, cf].take 3).all (toB 65535)) && toB 65535 rb)) := by show _ = _; simp [Bool.and_assoc]
          generalize toB 65535 rb = b at *
          cases ok2
          all_goals
            go_wp2_with (go_at_call 37; refine (F3.out _).mono ?_; rintro e w9 ⟨rfl, rfl⟩)
            refine ⟨⟨_, _, _, _, _, _, _, _, _, _, _, _, _, _, _, _, _, _, ?_, rfl⟩, ?_⟩
            · refine ⟨4, _, rfl, rfl, by omega, trivial, ?_⟩
              show _ = _
              rw [KEY.out, ← HO.out]
              simp
            · simp [intOf]
        · have KEY : Hid ((ok && ([hf, hu, rv, rb, cf].take 5).all (toB 65535)) = ((ok && ([hf, hu, rv, rb, cf].take 4).all (toB 65535)) && toB 65535 cf)) := by show _ = _; simp [Bool.and_assoc]
          generalize toB 65535 cf = b at *
          cases ok2
          all_goals
            go_wp2_with (go_at_call 37; refine (F4.out _).mono ?_; rintro e w9 ⟨rfl, rfl⟩)
            refine ⟨⟨_, _, _, _, _, _, _, _, _, _, _, _, _, _, _, _, _, _, ?_, rfl⟩, ?_⟩
            · refine ⟨5, _, rfl, rfl, by omega, trivial, ?_⟩
              show _ = _
              rw [KEY.out, ← HO.out]
              simp
            · simp [intOf]
        · have ho2 := HO.out
          simp only [List.take] at ho2
          have HO2 : Hid (ok2 = (ok && [hf, hu, rv, rb, cf].all (toB 65535))) := ho2
          have C := Lib.hid (fun w => to17 1114112 cc w)
          have HC := Lib.hid (fun h => toB_nat (top := 1114112) (n := cc) h)
          obtain ⟨cnt, hcnt⟩ : ∃ b, toB 1114112 cc = b := ⟨_, rfl⟩
          rw [hcnt] at C
          have h9 := HR.out
          unfold encOf at h9
          rw [HO1.out, ← HO2.out, hcnt] at h9
          simp only at h9
          have H9 := Lib.hid h9
          have HCNT := Lib.hid hcnt
          clear ho2 h9 hcnt HO F0 F1 F2 F3 F4 h0 h1 h2 h3 h4 HR
          go_wp2_with (go_at_call 37; refine (C.out _).mono ?_; rintro e w9 ⟨rfl, rfl⟩; refine Hid.out ?_)
          refine Lib.hid ?_
          cases ok2
          · have h2 := H9.out
            simp only [Bool.false_and, Bool.and_false, Bool.true_and, Bool.and_true, Bool.false_eq_true, if_false] at h2
            have H2 := Lib.hid h2
            clear h2
            go_wp2
            go_ret2
            refine ⟨?_, hbw3⟩
            rw [← H2.out]
            rfl
          cases ta2
          · have h2 := H9.out
            simp only [Bool.false_and, Bool.and_false, Bool.true_and, Bool.and_true, Bool.false_eq_true, if_false] at h2
            have H2 := Lib.hid h2
            clear h2
            go_wp2
            go_ret2
            refine ⟨?_, hbw3⟩
            rw [← H2.out]
            rfl
          cases na2
          · have h2 := H9.out
            simp only [Bool.false_and, Bool.and_false, Bool.true_and, Bool.and_true, Bool.false_eq_true, if_false] at h2
            have H2 := Lib.hid h2
            clear h2
            go_wp2
            go_ret2
            refine ⟨?_, hbw3⟩
            rw [← H2.out]
            rfl
          cases cnt
          · have h2 := H9.out
            simp only [Bool.false_and, Bool.and_false, Bool.true_and, Bool.and_true, Bool.false_eq_true, if_false] at h2
            have H2 := Lib.hid h2
            clear h2
            go_wp2
            go_ret2
            refine ⟨?_, hbw3⟩
            rw [← H2.out]
            rfl
          have q2 := HO2.out.symm
          simp only [Bool.and_eq_true, List.all_cons, List.all_nil, and_true] at q2
          obtain ⟨rfl, u1, u2, u3, u4, u5⟩ := q2
          have q1 := HO1.out
          simp only [Bool.and_eq_true, List.all_cons, List.all_nil, and_true] at q1
          obtain ⟨v0, v1, v2, v3, v4⟩ := q1
          obtain ⟨kind, rfl, e0⟩ := toB_nat v0
          obtain ⟨hs, rfl, e1⟩ := toB_nat v1
          obtain ⟨rs, rfl, e2⟩ := toB_nat v2
          obtain ⟨nm, rfl, e3⟩ := toB_nat v3
          obtain ⟨cs, rfl, e4⟩ := toB_nat v4
          obtain ⟨hf, rfl, e5⟩ := toB_nat u1
          obtain ⟨hu, rfl, e6⟩ := toB_nat u2
          obtain ⟨rv, rfl, e7⟩ := toB_nat u3
          obtain ⟨rb, rfl, e8⟩ := toB_nat u4
          obtain ⟨cf, rfl, e9⟩ := toB_nat u5
          obtain ⟨cc, rfl, e10⟩ := HC.out HCNT.out
          have h2 := H9.out
          simp only [Bool.and_true, if_true, Int.toNat_natCast] at h2
          have H2 := Lib.hid h2
          obtain ⟨TA, hTA⟩ : ∃ X : ByteArray, ByteArray.mk ta1.toArray = X := ⟨_, rfl⟩
          obtain ⟨NA, hNA⟩ : ∃ X : ByteArray, ByteArray.mk na1.toArray = X := ⟨_, rfl⟩
          have sTA : TA.size ≤ 200 := by rw [← hTA]; show ta1.toArray.size ≤ _; simpa using hl1
          have sNA : NA.size ≤ 2000 := by rw [← hNA]; show na1.toArray.size ≤ _; simpa using hl2
          rw [hTA, hNA]
          have HTA := Lib.hid hTA
          have HNA := Lib.hid hNA
          clear v0 v1 v2 v3 v4 u1 u2 u3 u4 u5 h2 hTA hNA H9 HO1 HO2 HC HCNT C
          have k0 := cell_regrown x0
          have k2 := cell_regrown x2
          have k3 := cell_regrown x3
          have k4 := cell_regrown x4
          have z0 := oneBA_size kind
          have z1 := oneBA_size hs
          have z2 := twoBA_size hf
          have z3 := twoBA_size hu
          have n1 : ¬ 9223372036854775807 < (oneBA kind).size + TA.size := by omega
          have n2 : ¬ 9223372036854775807 < (oneBA kind).size + TA.size + (oneBA hs).size := by omega
          have n3 : ¬ 9223372036854775807 < (oneBA kind).size + TA.size + (oneBA hs).size + (twoBA hf).size := by omega
          have n4 : ¬ 9223372036854775807 < (oneBA kind).size + TA.size + (oneBA hs).size + (twoBA hf).size + (twoBA hu).size := by omega
          clear z0 z1 z2 z3
          go_wp2
          refine wp_region_quiet_below (by kernel_rfl) (by kernel_rfl) ?_
          repeat (quiet_step (first | exact two19B _ (by omega) _ _ _ | exact one18B _ (by omega) _ _ _))
          refine wpQuiet_nil ?_
          intro wA hw'
          obtain ⟨⟨dq, osq⟩, hw''⟩ := hw'
          have hbA := below_regrown w9 dq osq
          rw [← hw''] at hbA
          clear hw'' n1 n2 n3 n4 k0 k2 k3 k4
          have hbwA := hbw3.trans (hbA.mono hbw3.size)
          obtain ⟨S1, hS1⟩ : ∃ X : ByteArray, oneBA kind ++ TA ++ oneBA hs ++ twoBA hf ++ twoBA hu = X := ⟨_, rfl⟩
          have sS1 : S1.size ≤ 210 := by
            rw [← hS1]
            simp only [ByteArray.size_append, oneBA_size, twoBA_size]
            omega
          rw [hS1]
          have HS1 := Lib.hid hS1
          have y5 := cellOn x5 hbA
          have y6 := cellOn x6 hbA
          have y7 := cellOn x7 hbA
          have y8 := cellOn x8 hbA
          have y10 := cellOn x10 hbA
          have y11 := cellOn x11 hbA
          have y12 := cellOn x12 hbA
          clear hS1 x0 x1 x2 x3 x4 x5 x6 x7 x8 x9 x10 x11 x12 hbA hbw3
          have k5 := cell_regrown y5
          have k6 := cell_regrown y6
          have k7 := cell_regrown y7
          have k8 := cell_regrown y8
          have z0 := oneBA_size rs
          have z1 := twoBA_size rv
          have z2 := twoBA_size rb
          have z3 := oneBA_size nm
          have n1 : ¬ 9223372036854775807 < S1.size + (oneBA rs).size := by omega
          have n2 : ¬ 9223372036854775807 < S1.size + (oneBA rs).size + (twoBA rv).size := by omega
          have n3 : ¬ 9223372036854775807 < S1.size + (oneBA rs).size + (twoBA rv).size + (twoBA rb).size := by omega
          have n4 : ¬ 9223372036854775807 < S1.size + (oneBA rs).size + (twoBA rv).size + (twoBA rb).size + (oneBA nm).size := by omega
          have n5 : ¬ 9223372036854775807 < S1.size + (oneBA rs).size + (twoBA rv).size + (twoBA rb).size + (oneBA nm).size + NA.size := by omega
          clear z0 z1 z2 z3
          go_wp2
          refine wp_region_quiet_below (by kernel_rfl) (by kernel_rfl) ?_
          repeat (quiet_step (first | exact two19B _ (by omega) _ _ _ | exact one18B _ (by omega) _ _ _))
          refine wpQuiet_nil ?_
          intro wB hw'
          obtain ⟨⟨dq2, osq2⟩, hw''⟩ := hw'
          have hbB := below_regrown wA dq2 osq2
          rw [← hw''] at hbB
          clear hw'' n1 n2 n3 n4 n5 k5 k6 k7 k8
          have hbwB := hbwA.trans (hbB.mono hbwA.size)
          obtain ⟨S2, hS2⟩ : ∃ X : ByteArray, S1 ++ oneBA rs ++ twoBA rv ++ twoBA rb ++ oneBA nm ++ NA = X := ⟨_, rfl⟩
          have sS2 : S2.size ≤ 2300 := by
            rw [← hS2]
            simp only [ByteArray.size_append, oneBA_size, twoBA_size]
            omega
          rw [hS2]
          have HS2 := Lib.hid hS2
          have v10 := cellOn y10 hbB
          have v11 := cellOn y11 hbB
          have v12 := cellOn y12 hbB
          clear hS2 y5 y6 y7 y8 y10 y11 y12 hbB hbwA
          have k10 := cell_regrown v10
          have k11 := cell_regrown v11
          have k12 := cell_regrown v12
          have z0 := oneBA_size cs
          have z1 := twoBA_size cf
          have z2 := fourBA_size cc
          have n1 : ¬ 9223372036854775807 < S2.size + (oneBA cs).size := by omega
          have n2 : ¬ 9223372036854775807 < S2.size + (oneBA cs).size + (twoBA cf).size := by omega
          have n3 : ¬ 9223372036854775807 < S2.size + (oneBA cs).size + (twoBA cf).size + (fourBA cc).size := by omega
          clear z0 z1 z2
          go_wp2
          refine wp_region_quiet_below (by kernel_rfl) (by kernel_rfl) ?_
          repeat (quiet_step (first | exact two19B _ (by omega) _ _ _ | exact one18B _ (by omega) _ _ _ | exact four20B _ (by omega) _ _ _))
          refine wpQuiet_nil ?_
          intro wC hw'
          obtain ⟨⟨dq3, osq3⟩, hw''⟩ := hw'
          have hbC := below_regrown wB dq3 osq3
          rw [← hw''] at hbC
          clear hw'' n1 n2 n3 k10 k11 k12
          have hbwC := hbwB.trans (hbC.mono hbwB.size)
          go_wp2
          go_ret2
          refine ⟨?_, ?_⟩
          · rw [← H2.out]
            have e1 : S2 ++ oneBA cs ++ twoBA cf ++ fourBA cc = ⟨(oneL kind ++ ta1 ++ oneL hs ++ twoL hf ++ twoL hu ++ oneL rs ++ twoL rv ++ twoL rb ++ oneL nm ++ na1 ++ oneL cs ++ twoL cf ++ fourL cc).toArray⟩ := by
              rw [← HS2.out, ← HS1.out, ← HTA.out, ← HNA.out]
              exact ByteArray.ext (by simp [oneBA, twoBA, fourBA])
            exact congrArg (fun b => Ending.returned (.tuple #[.string b, .int .i64 0])) e1
          · exact hbwC
end Go.Proofs.YteibjmlimcpaoaaDoor
