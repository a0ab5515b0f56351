/-
  What report.Encode and visor.Encode answer, for every report wherever its lists lie: what the document's answer is; nothing that lay in memory turns.
-/
import Derived.Test.YteibjmlimcpaoaaDoorERr
set_option linter.unusedVariables false
set_option linter.unusedSimpArgs false
namespace Go.Proofs.YteibjmlimcpaoaaDoor
open Go.RowKit Go.Sort

theorem tabsGo_snd : ∀ (l : List Tab) (acc : List UInt8), (tabsGo l acc).2 = l.all tabOk
  | [], acc => rfl
  | t :: r, acc => by
    rw [tabsGo, List.all_cons]
    cases h : tabOk t
    · simp
    · simp only [if_true, Bool.true_and]
      exact tabsGo_snd r _
theorem nmsGo_snd : ∀ (l : List Nm) (acc : List UInt8), (nmsGo l acc).2 = l.all nmOk
  | [], acc => rfl
  | t :: r, acc => by
    rw [nmsGo, List.all_cons]
    cases h : nmOk t
    · simp
    · simp only [if_true, Bool.true_and]
      exact nmsGo_snd r _
theorem tabsR_snd (l : List Tab) : (tabsR l).2 = (decide (l.length ≤ 16) && l.all tabOk) := by
  unfold tabsR
  by_cases h : 16 < l.length
  · rw [if_pos h, decide_eq_false (by omega)]; rfl
  · rw [if_neg h, decide_eq_true (by omega), tabsGo_snd]; rfl
theorem nmsR_snd (l : List Nm) : (nmsR l).2 = (decide (l.length ≤ 20) && l.all nmOk) := by
  unfold nmsR
  by_cases h : 20 < l.length
  · rw [if_pos h, decide_eq_false (by omega)]; rfl
  · rw [if_neg h, decide_eq_true (by omega), nmsGo_snd]; rfl
theorem enc_bad {kind hs hf hu rs rv rb nm cs cf cc : Int} {lt : List Tab} {ln : List Nm} (h : rightB kind hs hf hu rs rv rb nm cs cf cc lt ln = false) : encOf kind hs hf hu rs rv rb nm cs cf cc (tabsR lt) (nmsR ln) = ([], 5) := by
  unfold encOf
  rw [if_neg]
  intro c
  rw [tabsR_snd, nmsR_snd] at c
  unfold rightB at h
  simp only [List.all_cons, List.all_nil, Bool.and_true, Bool.and_eq_true] at c h
  have : rightB kind hs hf hu rs rv rb nm cs cf cc lt ln = true := by
    unfold rightB
    simp only [List.all_cons, List.all_nil, Bool.and_true, Bool.and_eq_true]
    obtain ⟨⟨⟨⟨⟨c1, c2⟩, c3⟩, c4⟩, c5⟩, c6⟩ := c
    exact ⟨⟨⟨⟨⟨c1, c4⟩, c2⟩, c3⟩, c5⟩, c6⟩
  unfold rightB at this
  simp only [List.all_cons, List.all_nil, Bool.and_true] at this
  rw [this] at h
  cases h
theorem enc_good {kind hs hf hu rs rv rb nm cs cf cc : Int} {lt : List Tab} {ln : List Nm} (h : rightB kind hs hf hu rs rv rb nm cs cf cc lt ln = true) :
    encOf kind hs hf hu rs rv rb nm cs cf cc (tabsR lt) (nmsR ln) = (oneL kind.toNat ++ oneL lt.length ++ lt.flatMap tabL ++ oneL hs.toNat ++ twoL hf.toNat ++ twoL hu.toNat ++ oneL rs.toNat ++ twoL rv.toNat ++ twoL rb.toNat ++ oneL nm.toNat ++ oneL ln.length ++ ln.flatMap nmL ++ oneL cs.toNat ++ twoL cf.toNat ++ fourL cc.toNat, 0) ∧
    toB 3 kind = true ∧ toB 8 hs = true ∧ toB 8 rs = true ∧ toB 8 nm = true ∧ toB 8 cs = true ∧ toB 65535 hf = true ∧ toB 65535 hu = true ∧ toB 65535 rv = true ∧ toB 65535 rb = true ∧ toB 65535 cf = true ∧ toB 1114112 cc = true ∧ lt.length ≤ 16 ∧ ln.length ≤ 20 ∧ (∀ t ∈ lt, tabOk t = true) ∧ (∀ x ∈ ln, nmOk x = true) := by
  have h' := h
  unfold rightB at h
  simp only [List.all_cons, List.all_nil, Bool.and_true, Bool.and_eq_true, decide_eq_true_eq] at h
  obtain ⟨⟨⟨⟨⟨c1, ⟨c2, c3⟩⟩, d1, d2, d3, d4⟩, e1, e2, e3, e4, e5⟩, ⟨f1, f2⟩⟩, g1⟩ := h
  have c3' := List.all_eq_true.1 c3
  have f2' := List.all_eq_true.1 f2
  refine ⟨?_, c1, d1, d2, d3, d4, e1, e2, e3, e4, e5, g1, c2, f1, c3', f2'⟩
  unfold encOf
  rw [if_pos]
  · have q1 : (tabsR lt).1 = oneL lt.length ++ lt.flatMap tabL := by
      unfold tabsR
      rw [if_neg (by omega), tabsGo_all _ _ c3']
    have q2 : (nmsR ln).1 = oneL ln.length ++ ln.flatMap nmL := by
      unfold nmsR
      rw [if_neg (by omega), nmsGo_all _ _ f2']
    rw [q1, q2]
    simp only [List.append_assoc]
  · rw [tabsR_snd, nmsR_snd]
    simp only [List.all_cons, List.all_nil, Bool.and_true, Bool.and_eq_true, decide_eq_true_eq]
    exact ⟨⟨⟨⟨⟨c1, d1, d2, d3, d4⟩, e1, e2, e3, e4, e5⟩, c2, c3⟩, f1, f2⟩, g1⟩

theorem RowIs.onB {w w1 w' : World} {v : Value} {n : Nat} {xs : List Value} (h : RowIs w v n xs) (h1 : Below w.heap.size w w1) (h2 : Below w1.heap.size w1 w') : RowIs w' v n xs :=
  h.on (h1.trans (h2.mono h1.size))

theorem run_conv_own (w : World) (B : Nat) (l : List UInt8) (v : Value) (h : w.ownsRow B 5 1 v l.length (Lib.byteCells l)) (hl : 0 < l.length) :
    (convert 62 9 v).run Tryd.prog w = .ok (.string ⟨l.toArray⟩) w := by
  rcases h.2 with ⟨_, hv⟩ | ⟨g, cap, cur, hv, _⟩
  · omega
  subst hv
  refine run_convert_bytes_back _ 62 9 5 ⟨g, 0, none⟩ _ l Tryd.underlying62 Tryd.underlying5 Tryd.underlying9 ?_
  intro j hj
  refine h.cells rfl j _ ?_
  simp [Lib.byteCells, hj]

set_option maxRecDepth 100000 in
set_option maxHeartbeats 4000000 in
theorem enc27 (kind hs hf hu rs rv rb nm cs cf cc : Int) (T N : Value) (lt : List Tab) (ln : List Nm) (w : World)
    (hlt : lt.length ≤ 9223372036854775807) (hln : ln.length ≤ 9223372036854775807) (htx : ∀ x ∈ ln, x.tx.size ≤ 9223372036854775807) (hT : RowIs w T lt.length (tcells lt)) (hN : RowIs w N ln.length (ncells ln)) (hu' : Utabs w) (r : List UInt8 × Int) (hr : encOf kind hs hf hu rs rv rb nm cs cf cc (tabsR lt) (nmsR ln) = r) :
    Calls Tryd.prog 34 #[.agg #[.int .i64 kind, T, .int .i64 hs, .int .i64 hf, .int .i64 hu, .int .i64 rs, .int .i64 rv, .int .i64 rb, .int .i64 nm, N, .int .i64 cs, .int .i64 cf, .int .i64 cc]] w fun e w' => e = .returned (.tuple #[.string ⟨r.1.toArray⟩, .int .i64 r.2]) ∧ Below w.heap.size w w' := by
  have HT := Lib.hid hT
  have HN := Lib.hid hN
  have HR := Lib.hid hr
  clear hr
  have hTs : ∃ ao n cap, T = .slice ao n cap := by obtain ⟨ao, cap, h, _⟩ := hT; exact ⟨_, _, _, h⟩
  have hNs : ∃ ao n cap, N = .slice ao n cap := by obtain ⟨ao, cap, h, _⟩ := hN; exact ⟨_, _, _, h⟩
  obtain ⟨tao, tn, tcap, hTe⟩ := hTs
  obtain ⟨nao, nn, ncap, hNe⟩ := hNs
  subst hTe hNe
  clear hT hN
  have a0 := allocAt w (.cells #[.int .i64 kind, .slice tao tn tcap, .int .i64 hs, .int .i64 hf, .int .i64 hu, .int .i64 rs, .int .i64 rv, .int .i64 rb, .int .i64 nm, .slice nao nn ncap, .int .i64 cs, .int .i64 cf, .int .i64 cc] 37)
  have b0 : Below w.heap.size w (w.alloc (.cells #[.int .i64 kind, .slice tao tn tcap, .int .i64 hs, .int .i64 hf, .int .i64 hu, .int .i64 rs, .int .i64 rv, .int .i64 rb, .int .i64 nm, .slice nao nn ncap, .int .i64 cs, .int .i64 cf, .int .i64 cc] 37)) := (Below.refl _ _).alloc (Nat.le_refl _) _
  have R := Lib.hid (right46 kind hs hf hu rs rv rb nm cs cf cc (.slice tao tn tcap) (.slice nao nn ncap) lt ln _ hlt hln htx (HT.out.on b0) (HN.out.on b0) (hu'.below b0))
  cases hgood : rightB kind hs hf hu rs rv rb nm cs cf cc lt ln
  · rw [hgood] at R
    have h1 := HR.out
    rw [enc_bad hgood] at h1
    have H1 := Lib.hid h1
    clear h1 hgood HR
    go_enter Tryd.func34, Tryd.ntmps34
    go_wp2_with (go_at_call 56; refine R.out.mono ?_; rintro e w1 ⟨rfl, hb1⟩)
    go_ret2
    refine ⟨?_, b0.trans (hb1.mono b0.size)⟩
    rw [← H1.out]
    rfl
  · rw [hgood] at R
    obtain ⟨he, v0, v1, v2, v3, v4, u1, u2, u3, u4, u5, u6, p1, p2, p3, p4⟩ := enc_good hgood
    obtain ⟨kind, rfl, e0⟩ := toB_nat v0
    obtain ⟨hs, rfl, e1⟩ := toB_nat v1
    obtain ⟨rs, rfl, e2⟩ := toB_nat v2
    obtain ⟨nm, rfl, e3⟩ := toB_nat v3
    obtain ⟨cs, rfl, e4⟩ := toB_nat v4
    obtain ⟨hf, rfl, e5⟩ := toB_nat u1
    obtain ⟨hu, rfl, e6⟩ := toB_nat u2
    obtain ⟨rv, rfl, e7⟩ := toB_nat u3
    obtain ⟨rb, rfl, e8⟩ := toB_nat u4
    obtain ⟨cf, rfl, e9⟩ := toB_nat u5
    obtain ⟨cc, rfl, e10⟩ := toB_nat u6
    have h1 := HR.out
    rw [he] at h1
    simp only [Int.toNat_natCast] at h1
    obtain ⟨bs, hbs⟩ : ∃ X, oneL kind ++ oneL lt.length ++ lt.flatMap tabL ++ oneL hs ++ twoL hf ++ twoL hu ++ oneL rs ++ twoL rv ++ twoL rb ++ oneL nm ++ oneL ln.length ++ ln.flatMap nmL ++ oneL cs ++ twoL cf ++ fourL cc = X := ⟨_, rfl⟩
    rw [hbs] at h1
    have hpos : 0 < bs.length := by
      rw [← hbs]
      simp only [List.length_append]
      have : (oneL kind).length = 1 := rfl
      omega
    have H1 := Lib.hid h1
    have WR := Lib.hid (fun (w2 : World) (b : Nat) (hb : w2.heap[b]? = some (.cells #[.slice none 0 0] 96 (0, 0))) (h2 : Below w.heap.size w (w2)) (hbe : b + 1 = w2.heap.size) (hwb : w.heap.size ≤ b) =>
      wreport b b kind hs hf hu rs rv rb nm cs cf cc (.slice tao tn tcap) (.slice nao nn ncap) lt ln [] w2 (by omega) (by omega) (by omega) (by omega) (by omega) (by omega) (by omega) (by omega) (by omega) (by omega) (by omega) (by omega) p1 p2 p3 p4
        (fun w' h => HT.out.on (h2.trans (h.mono hwb))) (fun w' h => HN.out.on (h2.trans (h.mono hwb))) ⟨Nat.le_refl _, _, hb, World.ownsRow_nil _ _ _ _⟩ (by simp) bs (by simpa using hbs))
    clear h1 he v0 v1 v2 v3 v4 u1 u2 u3 u4 u5 u6 hgood hbs HR p3 p4
    go_enter Tryd.func34, Tryd.ntmps34
    go_wp2_with (go_at_call 56; refine R.out.mono ?_; rintro e w1 ⟨rfl, hb1⟩; refine Hid.out ?_)
    have a1 := belowAt hb1 a0
    have bw1 := b0.trans (hb1.mono b0.size)
    have a2 := allocOld (o' := .cells #[.slice none 0 0] 96) a1
    have x0 := cellsAt a2 0
    have x1 := cellsAt a2 1
    have x2 := cellsAt a2 2
    have x3 := cellsAt a2 3
    have x4 := cellsAt a2 4
    have x5 := cellsAt a2 5
    have x6 := cellsAt a2 6
    have x7 := cellsAt a2 7
    have x8 := cellsAt a2 8
    have x9 := cellsAt a2 9
    have x10 := cellsAt a2 10
    have x11 := cellsAt a2 11
    have x12 := cellsAt a2 12
    simp only [List.getElem?_toArray, List.getElem?_cons_zero, List.getElem?_cons_succ] at x0 x1 x2 x3 x4 x5 x6 x7 x8 x9 x10 x11 x12
    have bw2 : Below w.heap.size w (w1.alloc (.cells #[.slice none 0 0] 96)) := bw1.alloc bw1.size _
    have hne := (Array.getElem?_eq_some_iff.1 a1).1
    refine Lib.hid ?_
    go_wp2_with (go_at_call 57; refine (WR.out _ w1.heap.size (allocAt _ _) bw2 (by simp) (by omega)).mono ?_; rintro e w3 ⟨rfl, g3, b3⟩; refine Hid.out ?_)
    clear x0 x1 x2 x3 x4 x5 x6 x7 x8 x9 x10 x11 x12
    obtain ⟨hB, v, hbk, hown⟩ := g3
    have d0 : w3.cell? ⟨w1.heap.size, 0, none⟩ = some v := by simp [World.cell?, hbk]
    have hcv := run_conv_own w3 _ bs v hown hpos
    have bw3 := bw2.trans (b3.mono bw1.size)
    obtain ⟨ao, n', cap, rfl⟩ : ∃ ao n' cap, v = .slice ao n' cap := by
      rcases hown.2 with ⟨hv, _⟩ | ⟨g, cap, cur, hv, _⟩
      · exact ⟨_, _, _, hv⟩
      · exact ⟨_, _, _, hv⟩
    refine Lib.hid ?_
    go_wp2
    go_ret2
    refine ⟨?_, bw3⟩
    rw [← H1.out]
    rfl

set_option maxRecDepth 100000 in
set_option maxHeartbeats 1000000 in
theorem enc11 (kind hs hf hu rs rv rb nm cs cf cc : Int) (T N : Value) (lt : List Tab) (ln : List Nm) (w : World)
    (hlt : lt.length ≤ 9223372036854775807) (hln : ln.length ≤ 9223372036854775807) (htx : ∀ x ∈ ln, x.tx.size ≤ 9223372036854775807) (hT : RowIs w T lt.length (tcells lt)) (hN : RowIs w N ln.length (ncells ln)) (hu' : Utabs w) (r : List UInt8 × Int) (hr : encOf kind hs hf hu rs rv rb nm cs cf cc (tabsR lt) (nmsR ln) = r) :
    Calls Tryd.prog 13 #[.agg #[.int .i64 kind, T, .int .i64 hs, .int .i64 hf, .int .i64 hu, .int .i64 rs, .int .i64 rv, .int .i64 rb, .int .i64 nm, N, .int .i64 cs, .int .i64 cf, .int .i64 cc]] w fun e w' => e = .returned (.tuple #[.string ⟨r.1.toArray⟩, .int .i64 r.2]) ∧ Below w.heap.size w w' := by
  have hTs : ∃ ao n cap, T = .slice ao n cap := by obtain ⟨ao, cap, h, _⟩ := hT; exact ⟨_, _, _, h⟩
  have hNs : ∃ ao n cap, N = .slice ao n cap := by obtain ⟨ao, cap, h, _⟩ := hN; exact ⟨_, _, _, h⟩
  obtain ⟨tao, tn, tcap, hTe⟩ := hTs
  obtain ⟨nao, nn, ncap, hNe⟩ := hNs
  subst hTe hNe
  have b0 : Below w.heap.size w (w.alloc (.cells #[.int .i64 kind, .slice tao tn tcap, .int .i64 hs, .int .i64 hf, .int .i64 hu, .int .i64 rs, .int .i64 rv, .int .i64 rb, .int .i64 nm, .slice nao nn ncap, .int .i64 cs, .int .i64 cf, .int .i64 cc] 37)) := (Below.refl _ _).alloc (Nat.le_refl _) _
  have E := Lib.hid (enc27 kind hs hf hu rs rv rb nm cs cf cc (.slice tao tn tcap) (.slice nao nn ncap) lt ln _ hlt hln htx (hT.on b0) (hN.on b0) (hu'.below b0) r hr)
  clear hr hT hN hu'
  go_enter Tryd.func13, Tryd.ntmps13
  go_wp2_with (go_at_call 34; refine E.out.mono ?_; rintro e w1 ⟨rfl, hb1⟩)
  go_ret2
  exact ⟨rfl, b0.trans (hb1.mono b0.size)⟩
end Go.Proofs.YteibjmlimcpaoaaDoor
