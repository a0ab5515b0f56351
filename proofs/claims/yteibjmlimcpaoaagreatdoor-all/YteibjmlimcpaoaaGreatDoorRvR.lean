/-
  The document's own side: what visorref.Inspect answers: the report that the document asks for, its lists in new memory.
-/
import Derived.Test.YteibjmlimcpaoaaGreatDoorRvQ
import Derived.Deep.CutBlock
set_option linter.unusedVariables false
set_option linter.unusedSimpArgs false
namespace Go.Proofs.YteibjmlimcpaoaaGreatDoor.V
open Go.RowKit Go.Sort
open Go.Proofs.YteibjmlimcpaoaaGreatDoor.W (at_below at_alloc new_at below_alloc cellsAt strV PolIs pv RowIs own_form own_slice own_any own_kind_ne' grown_set grown_at grown_below grown_trans)

theorem new_atR (w : World) (o p : Obj) : ((w.alloc o).alloc p).heap[w.heap.size + 1]? = some p := by
  have := new_at (w.alloc o) p
  simpa using this
theorem tabW_take (L : List Wd) (k : Nat) (x : Wd) (h : L[k]? = some x) : (L.take (k + 1)).map tabW = (L.take k).map tabW ++ [tabW x] := by
  rw [List.take_add_one, h]
  simp

set_option maxRecDepth 100000 in
set_option maxHeartbeats 2000000 in
/-- a policy that is none, a file that is too long -/
theorem inspectRno (P : Pol) (T I : Value) (D : List UInt8) (w : World) (hp : PolIs P T I w) (hD : D.length ≤ 9223372036854775807) (er : Int) (her : (if P.ok = false then 2 else if 2000 < D.length then 3 else (0 : Int)) = er) (h0 : ¬ er = 0) :
    Calls Tryz.prog 14 #[pv T I P.text, strV D] w fun e w' => e = .returned (.tuple #[.agg #[.int .i64 0, .slice none 0 0, .int .i64 0, .int .i64 0, .int .i64 0, .int .i64 0, .int .i64 0, .int .i64 0, .int .i64 0, .slice none 0 0, .int .i64 0, .int .i64 0, .int .i64 0], .int .i64 er]) ∧ Below w.heap.size w w' := by
  obtain ⟨ta, tc, hTe, _⟩ := id hp.tags
  obtain ⟨ia, ic, hIe, _⟩ := id hp.ids
  subst hTe hIe
  obtain ⟨W, hW⟩ : ∃ W, (w.alloc (.cells #[.slice ta P.tags.length tc, .slice ia P.ids.length ic, .int .i64 P.text] 25)).alloc (.cells #[.int .i64 0, .slice none 0 0, .int .i64 0, .int .i64 0, .int .i64 0, .int .i64 0, .int .i64 0, .int .i64 0, .int .i64 0, .slice none 0 0, .int .i64 0, .int .i64 0, .int .i64 0] 39) = W := ⟨_, rfl⟩
  have hbW : Below w.heap.size w W := by rw [← hW]; exact (below_alloc _ _).alloc (by simp) _
  have n0 : W.heap[w.heap.size]? = some (.cells #[.slice ta P.tags.length tc, .slice ia P.ids.length ic, .int .i64 P.text] 25 (0, 0)) := by rw [← hW]; exact at_alloc (new_at _ _)
  have n1 : W.heap[w.heap.size + 1]? = some (.cells #[.int .i64 0, .slice none 0 0, .int .i64 0, .int .i64 0, .int .i64 0, .int .i64 0, .int .i64 0, .int .i64 0, .int .i64 0, .slice none 0 0, .int .i64 0, .int .i64 0, .int .i64 0] 39 (0, 0)) := by rw [← hW]; exact new_atR _ _ _
  have RF := Lib.hid (refusesV P (.slice ta P.tags.length tc) (.slice ia P.ids.length ic) D W hD (hp.on hbW))
  rw [her] at RF
  have y0 := cellsAt n0 0
  have y1 := cellsAt n0 1
  have y2 := cellsAt n0 2
  simp only [List.getElem?_toArray, List.getElem?_cons_zero, List.getElem?_cons_succ] at y0 y1 y2
  have HN := Lib.hid n1
  unfold pv strV at RF ⊢
  clear n0 n1 hp her
  go_enter Tryz.func14, Tryz.ntmps14
  go_wp2_with (go_at_call 33; refine RF.out.mono ?_; rintro e w1 ⟨rfl, hb1⟩; refine Hid.out ?_)
  clear y0 y1 y2 hW RF
  have m1 := at_below HN.out hb1
  have bw1 : Below w.heap.size w w1 := hbW.trans (hb1.mono hbW.size)
  have a0 := cellsAt m1 0
  have a1 := cellsAt m1 1
  have a2 := cellsAt m1 2
  have a3 := cellsAt m1 3
  have a4 := cellsAt m1 4
  have a5 := cellsAt m1 5
  have a6 := cellsAt m1 6
  have a7 := cellsAt m1 7
  have a8 := cellsAt m1 8
  have a9 := cellsAt m1 9
  have a10 := cellsAt m1 10
  have a11 := cellsAt m1 11
  have a12 := cellsAt m1 12
  have fa0 := frozenAt m1 0
  have fa1 := frozenAt m1 1
  have fa2 := frozenAt m1 2
  have fa3 := frozenAt m1 3
  have fa4 := frozenAt m1 4
  have fa5 := frozenAt m1 5
  have fa6 := frozenAt m1 6
  have fa7 := frozenAt m1 7
  have fa8 := frozenAt m1 8
  have fa9 := frozenAt m1 9
  have fa10 := frozenAt m1 10
  have fa11 := frozenAt m1 11
  have fa12 := frozenAt m1 12
  simp only [List.getElem?_toArray, List.getElem?_cons_zero, List.getElem?_cons_succ] at a0 a1 a2 a3 a4 a5 a6 a7 a8 a9 a10 a11 a12
  have hz := endV (w := w) [.int .i64 0, .slice none 0 0, .int .i64 0, .int .i64 0, .int .i64 0, .int .i64 0, .int .i64 0, .int .i64 0, .int .i64 0, .slice none 0 0, .int .i64 0, .int .i64 0, .int .i64 0] m1 rfl (by omega) bw1
  simp only [setAll, Nat.zero_add, Nat.reduceAdd] at hz
  have v0 := cellsAt hz.1 0
  have v1 := cellsAt hz.1 1
  have v2 := cellsAt hz.1 2
  have v3 := cellsAt hz.1 3
  have v4 := cellsAt hz.1 4
  have v5 := cellsAt hz.1 5
  have v6 := cellsAt hz.1 6
  have v7 := cellsAt hz.1 7
  have v8 := cellsAt hz.1 8
  have v9 := cellsAt hz.1 9
  have v10 := cellsAt hz.1 10
  have v11 := cellsAt hz.1 11
  have v12 := cellsAt hz.1 12
  simp only [List.getElem?_toArray, List.getElem?_cons_zero, List.getElem?_cons_succ] at v0 v1 v2 v3 v4 v5 v6 v7 v8 v9 v10 v11 v12
  have VV := Lib.hid (And.intro (And.intro v0 (And.intro v1 (And.intro v2 (And.intro v3 (And.intro v4 (And.intro v5 (And.intro v6 v7))))))) (And.intro (And.intro v8 (And.intro v9 (And.intro v10 (And.intro v11 v12)))) hz.2))
  clear v0 v1 v2 v3 v4 v5 v6 v7 v8 v9 v10 v11 v12 hz m1
  refine Lib.hid ?_
  go_wp2
  obtain ⟨⟨v0, v1, v2, v3, v4, v5, v6, v7⟩, ⟨v8, v9, v10, v11, v12⟩, hz2⟩ := VV.out
  exact bodyPost_ret (v := .tuple #[.agg #[.int .i64 0, .slice none 0 0, .int .i64 0, .int .i64 0, .int .i64 0, .int .i64 0, .int .i64 0, .int .i64 0, .int .i64 0, .slice none 0 0, .int .i64 0, .int .i64 0, .int .i64 0], .int .i64 er]) (by simp [results, Tryz.results14, go_sem, v0, v1, v2, v3, v4, v5, v6, v7, v8, v9, v10, v11, v12]) rfl ⟨rfl, hz2⟩

set_option maxRecDepth 100000 in
set_option maxHeartbeats 8000000 in
theorem inspectR (P : Pol) (T I : Value) (D : List UInt8) (w : World) (hp : PolIs P T I w) (hok : P.ok = true) (hD : D.length ≤ 2000) (r : Rep) (hr : docR P D = r) :
    Calls Tryz.prog 14 #[pv T I P.text, strV D] w fun e w' => ∃ VA VB, e = .returned (.tuple #[r.val VA VB, .int .i64 0]) ∧ w'.ownsRow w.heap.size 74 3 VA r.lt.length (tcells r.lt) ∧ w'.ownsRow w.heap.size 72 7 VB r.ln.length (ncells r.ln) ∧ Below w.heap.size w w' := by
  obtain ⟨i0, hi, hz0, hz1, hz2⟩ := info_parts infoT
  have h8 : P.tags.length ≤ 8 := ((ok_iff P).1 hok).1
  have h8i : P.ids.length ≤ 8 := ((ok_iff P).1 hok).2.1
  obtain ⟨ta, tc, hTe, _⟩ := id hp.tags
  obtain ⟨ia, ic, hIe, _⟩ := id hp.ids
  subst hTe hIe
  obtain ⟨kd, n, hkn⟩ : ∃ kd n, kindL D = (kd, n) := ⟨_, _, rfl⟩
  have hn16 := (kind_rng D).2.1
  rw [hkn] at hn16
  simp only at hn16
  obtain ⟨b1, f1, s1, ht1⟩ : ∃ b f s, tbl P D tagHead = (b, f, s) := ⟨_, _, _, rfl⟩
  obtain ⟨b2, f2, s2, ht2⟩ : ∃ b f s, tbl P D tagOs2 = (b, f, s) := ⟨_, _, _, rfl⟩
  obtain ⟨b3, f3, s3, ht3⟩ : ∃ b f s, tbl P D tagName = (b, f, s) := ⟨_, _, _, rfl⟩
  obtain ⟨b4, f4, s4, ht4⟩ : ∃ b f s, tbl P D tagCmap = (b, f, s) := ⟨_, _, _, rfl⟩
  have bl : ∀ tag b f s, tbl P D tag = (b, f, s) → b.length ≤ 2000 := by
    intro tag b f s h
    rw [tbl_is] at h
    split at h
    · cases h
      simp
    · cases h
      unfold winL
      rw [List.length_take, List.length_drop]
      omega
  have l1 := bl _ _ _ _ ht1
  have l2 := bl _ _ _ _ ht2
  have l3 := bl _ _ _ _ ht3
  have l4 := bl _ _ _ _ ht4
  have T1 := Lib.hid (fun (wx : World) (h : PolIs P (.slice ta P.tags.length tc) (.slice ia P.ids.length ic) wx) => tableV P (.slice ta P.tags.length tc) (.slice ia P.ids.length ic) D wx h h8 hD tagHead b1 f1 s1 ht1)
  have T2 := Lib.hid (fun (wx : World) (h : PolIs P (.slice ta P.tags.length tc) (.slice ia P.ids.length ic) wx) => tableV P (.slice ta P.tags.length tc) (.slice ia P.ids.length ic) D wx h h8 hD tagOs2 b2 f2 s2 ht2)
  have T3 := Lib.hid (fun (wx : World) (h : PolIs P (.slice ta P.tags.length tc) (.slice ia P.ids.length ic) wx) => tableV P (.slice ta P.tags.length tc) (.slice ia P.ids.length ic) D wx h h8 hD tagName b3 f3 s3 ht3)
  have T4 := Lib.hid (fun (wx : World) (h : PolIs P (.slice ta P.tags.length tc) (.slice ia P.ids.length ic) wx) => tableV P (.slice ta P.tags.length tc) (.slice ia P.ids.length ic) D wx h h8 hD tagCmap b4 f4 s4 ht4)
  unfold pv strV tagHead at T1
  unfold pv strV tagOs2 at T2
  unfold pv strV tagName at T3
  unfold pv strV tagCmap at T4
  obtain ⟨h1, h2, h3, hh⟩ : ∃ a b c, (if s1 = 0 then headL b1 else (s1, 0, 0)) = (a, b, c) := ⟨_, _, _, rfl⟩
  obtain ⟨r1, r2, r3, hrr⟩ : ∃ a b c, (if s2 = 0 then rightsL b2 else (s2, 0, 0)) = (a, b, c) := ⟨_, _, _, rfl⟩
  obtain ⟨nm, hnm⟩ : ∃ a, (if s3 = 0 then countL b3 6 12 else s3) = a := ⟨_, rfl⟩
  obtain ⟨ln, hln⟩ : ∃ a, (if nm = 0 then namesL P b3 else []) = a := ⟨_, rfl⟩
  obtain ⟨c1, c2, c3, hcc⟩ : ∃ a b c, (if s4 = 0 then coverL b4 else (s4, 0, 0)) = (a, b, c) := ⟨_, _, _, rfl⟩
  have hrep : r = ⟨(kd : Int), (winsR P D n n).map tabW, h1, h2, h3, r1, r2, r3, nm, ln, c1, c2, c3⟩ := by
    rw [← hr]
    unfold docR
    rw [hkn, ht1, ht2, ht3, ht4]
    simp only [hh, hrr, hnm, hln, hcc]
  subst hrep
  have HC := Lib.hid (And.intro hh (And.intro hrr (And.intro hnm (And.intro hln hcc))))
  have hlen := winsR_length P D n n
  obtain ⟨W, hW⟩ : ∃ W, (w.alloc (.cells #[.slice ta P.tags.length tc, .slice ia P.ids.length ic, .int .i64 P.text] 25)).alloc (.cells #[.int .i64 0, .slice none 0 0, .int .i64 0, .int .i64 0, .int .i64 0, .int .i64 0, .int .i64 0, .int .i64 0, .int .i64 0, .slice none 0 0, .int .i64 0, .int .i64 0, .int .i64 0] 39) = W := ⟨_, rfl⟩
  have hbW : Below w.heap.size w W := by rw [← hW]; exact (below_alloc _ _).alloc (by simp) _
  have n0 : W.heap[w.heap.size]? = some (.cells #[.slice ta P.tags.length tc, .slice ia P.ids.length ic, .int .i64 P.text] 25 (0, 0)) := by rw [← hW]; exact at_alloc (new_at _ _)
  have n1 : W.heap[w.heap.size + 1]? = some (.cells #[.int .i64 0, .slice none 0 0, .int .i64 0, .int .i64 0, .int .i64 0, .int .i64 0, .int .i64 0, .int .i64 0, .int .i64 0, .slice none 0 0, .int .i64 0, .int .i64 0, .int .i64 0] 39 (0, 0)) := by rw [← hW]; exact new_atR _ _ _
  have RF := Lib.hid (refusesV P (.slice ta P.tags.length tc) (.slice ia P.ids.length ic) D W (by omega) (hp.on hbW))
  rw [if_neg (by rw [hok]; simp), if_neg (by omega)] at RF
  have K := Lib.hid (fun (w : World) => kindV D w (by omega))
  rw [hkn] at K
  simp only at K
  have WN := Lib.hid (fun (wx : World) (h : PolIs P (.slice ta P.tags.length tc) (.slice ia P.ids.length ic) wx) => windowsV P (.slice ta P.tags.length tc) (.slice ia P.ids.length ic) D wx h h8 hD n kd hkn)
  generalize winsR P D n n = L at *
  have y0 := cellsAt n0 0
  have y1 := cellsAt n0 1
  have y2 := cellsAt n0 2
  simp only [List.getElem?_toArray, List.getElem?_cons_zero, List.getElem?_cons_succ] at y0 y1 y2
  have HN := Lib.hid (And.intro n0 (And.intro n1 (And.intro hbW hp)))
  unfold pv strV at RF WN ⊢
  unfold Rep.val
  simp only
  clear n0 n1 hp hr hh hrr hnm hln hcc ht1 ht2 ht3 ht4 bl hkn hok
  go_enter Tryz.func14, Tryz.ntmps14
  go_wp2_with (go_at_call 33; refine RF.out.mono ?_; rintro e w1 ⟨rfl, hb1⟩; refine Hid.out ?_)
  clear y0 y1 y2 hW RF
  have bw1 : Below w.heap.size w w1 := hbW.trans (hb1.mono hbW.size)
  obtain ⟨V1, hV1⟩ : ∃ W, w1.alloc (.cells #[.int .i64 (kd : Int), .slice none 0 0, .int .i64 0, .int .i64 0, .int .i64 0, .int .i64 0, .int .i64 0, .int .i64 0, .int .i64 0, .slice none 0 0, .int .i64 0, .int .i64 0, .int .i64 0] 39) = W := ⟨_, rfl⟩
  have bV1 : Below w.heap.size w V1 := by rw [← hV1]; exact bw1.alloc bw1.size _
  have n0 : V1.heap[w.heap.size]? = some (.cells #[.slice ta P.tags.length tc, .slice ia P.ids.length ic, .int .i64 P.text] 25 (0, 0)) := by rw [← hV1]; exact at_alloc (at_below HN.out.1 hb1)
  have n1 : V1.heap[w.heap.size + 1]? = some (.cells #[.int .i64 0, .slice none 0 0, .int .i64 0, .int .i64 0, .int .i64 0, .int .i64 0, .int .i64 0, .int .i64 0, .int .i64 0, .slice none 0 0, .int .i64 0, .int .i64 0, .int .i64 0] 39 (0, 0)) := by rw [← hV1]; exact at_alloc (at_below HN.out.2.1 hb1)
  have n2 : V1.heap[w1.heap.size]? = some (.cells #[.int .i64 (kd : Int), .slice none 0 0, .int .i64 0, .int .i64 0, .int .i64 0, .int .i64 0, .int .i64 0, .int .i64 0, .int .i64 0, .slice none 0 0, .int .i64 0, .int .i64 0, .int .i64 0] 39 (0, 0)) := by rw [← hV1]; exact new_at _ _
  have szW : w.heap.size + 1 < w1.heap.size := (Array.getElem?_eq_some_iff.1 (at_below HN.out.2.1 hb1)).1
  have is1 : IS w w1.heap.size #[.slice ta P.tags.length tc, .slice ia P.ids.length ic, .int .i64 P.text] #[.int .i64 (kd : Int), .slice none 0 0, .int .i64 0, .int .i64 0, .int .i64 0, .int .i64 0, .int .i64 0, .int .i64 0, .int .i64 0, .slice none 0 0, .int .i64 0, .int .i64 0, .int .i64 0] (.slice none 0 0) (.slice none 0 0) [] [] V1 := ⟨bV1, n0, n1, n2, szW, World.ownsRow_nil _ _ _ _, World.ownsRow_nil _ _ _ _⟩
  have y0 := cellsAt n0 0
  have y1 := cellsAt n0 1
  have y2 := cellsAt n0 2
  simp only [List.getElem?_toArray, List.getElem?_cons_zero, List.getElem?_cons_succ] at y0 y1 y2
  have W1 := Lib.hid (WN.out V1 (HN.out.2.2.2.on bV1))
  clear n0 n1 n2 WN hb1
  have HIS := Lib.hid is1
  clear is1
  subst hV1
  refine Lib.hid ?_
  go_wp2_with (first | (go_at_call 34; refine (K.out _).mono ?_; rintro e wq ⟨rfl, hw1⟩; have hw1 := hw1.symm; subst hw1) | (go_at_call 35; refine W1.out.mono ?_; rintro e w2 ⟨v, rfl, hown, hb2⟩; obtain ⟨oa, oc, rfl⟩ := own_slice hown; refine Hid.out ?_))
  clear y0 y1 y2
  have is2 := HIS.out.below hb2
  have HOW := Lib.hid hown
  clear hown hb2 HIS W1 K
  clear szW bV1 bw1
  have HI2 := Lib.hid is2
  refine Lib.hid ?_
  go_wp2
  go_loopw [11] (fun is wr => ∃ (k : Nat) (VT : Value), is = .int .i64 (k : Int) ∧ k ≤ n ∧ IS w w1.heap.size #[.slice ta P.tags.length tc, .slice ia P.ids.length ic, .int .i64 P.text] #[.int .i64 (kd : Int), VT, .int .i64 0, .int .i64 0, .int .i64 0, .int .i64 0, .int .i64 0, .int .i64 0, .int .i64 0, .slice none 0 0, .int .i64 0, .int .i64 0, .int .i64 0] VT (.slice none 0 0) ((L.take k).map tabW) [] wr ∧ w2.grownBy wr (some w1.heap.size) ∧ wr.ownsRow w2.heap.size 74 3 VT k (tcells ((L.take k).map tabW))) (fun is _ => n - (intOf is).toNat)
  case atStart => exact ⟨0, .slice none 0 0, rfl, Nat.zero_le _, is2, World.grownBy.refl _ _, World.ownsRow_nil _ _ _ _⟩
  case round =>
    obtain ⟨k, VT, rfl, hk, is, hg, hoT⟩ := hrel
    clear is2
    by_cases hk1 : k < n
    · obtain ⟨x, hx⟩ : ∃ x, L[k]? = some x := ⟨_, List.getElem?_eq_getElem (by omega)⟩
      have hlk : ((L.take k).map tabW).length = k := by rw [List.length_map, List.length_take]; omega
      have htk := tabW_take L k x hx
      have ow := HOW.out.kept hg (.inr (own_kind_ne' HOW.out HI2.out.hr (by decide)))
      obtain ⟨g, cap', cs, hve, hbg, hgg⟩ := own_form ow (by omega)
      cases hve
      obtain ⟨_, _, hao, hrc⟩ := rowOwnW ow
      cases hao
      obtain ⟨_, _, hgo, hcell⟩ := hrc (by omega)
      cases hgo
      obtain ⟨t0, t1, t2, t3, t4⟩ := wcells_at L k x hx
      have c0 := hcell _ _ t0
      have c1' := hcell _ _ t1
      have c2' := hcell _ _ t2
      rw [Nat.zero_add] at c0 c1' c2'
      obtain ⟨va, vc, rfl⟩ := own_slice hoT
      obtain ⟨X, hX⟩ : ∃ X, ByteArray.mk x.tag.toArray = X := ⟨_, rfl⟩
      rw [hX] at c0
      obtain ⟨xst, hxst⟩ : ∃ y : Int, (x.st : Int) = y := ⟨_, rfl⟩
      obtain ⟨xsz, hxsz⟩ : ∃ y : Int, (x.size : Int) = y := ⟨_, rfl⟩
      rw [hxst] at c1'
      rw [hxsz] at c2'
      have hnew : tcells [tabW x] = [.string X, .int .i64 xst, .int .i64 xsz] := by rw [← hX, ← hxst, ← hxsz]; rfl
      have y1 := cellsAt is.hr 1
      have e1 := cellsAt (at_alloc (q := .cells #[.string X, .int .i64 xst, .int .i64 xsz] 74) is.hr) 1
      simp only [List.getElem?_toArray, List.getElem?_cons_zero, List.getElem?_cons_succ] at y1 e1
      have bws := is.bw.size
      have hgs := hg.size
      have b2s := HI2.out.bw.size
      have HT3 := Lib.hid (fun (wa w3 : World) (g3 k3 : Nat) (hb : Below wr.heap.size wr wa) (gr : wa.grownBy w3 (Value.slice va k vc).ownBlock) (o : w3.ownsRow w2.heap.size 74 3 (.slice (some ⟨g3, 0, none⟩) (k + 1) k3) (k + 1) (tcells ((L.take k).map tabW) ++ [.string X, .int .i64 xst, .int .i64 xsz])) =>
        show IS w w1.heap.size #[.slice ta P.tags.length tc, .slice ia P.ids.length ic, .int .i64 P.text] #[.int .i64 (kd : Int), .slice va k vc, .int .i64 0, .int .i64 0, .int .i64 0, .int .i64 0, .int .i64 0, .int .i64 0, .int .i64 0, .slice none 0 0, .int .i64 0, .int .i64 0, .int .i64 0] (.slice (some ⟨g3, 0, none⟩) (k + 1) k3) (.slice none 0 0) ((L.take (k + 1)).map tabW) [] w3 ∧ w2.grownBy w3 (some w1.heap.size) ∧ w3.ownsRow w2.heap.size 74 3 (.slice (some ⟨g3, 0, none⟩) (k + 1) k3) (k + 1) (tcells ((L.take (k + 1)).map tabW)) from by
          have o2 := Go.Proofs.YteibjmlimcpaoaaGreatDoor.W.own_lower o (B' := w.heap.size) (by omega)
          have p := is.push (x := tabW x) hb gr (by rw [hlk, hnew]; exact o2)
          rw [hlk] at p
          rw [htk]
          refine ⟨p, Go.Proofs.YteibjmlimcpaoaaGreatDoor.W.grown_row (grown_trans hg (grown_below (some w1.heap.size) hb)) gr (fun j hj => (hoT.lt j hj).1), ?_⟩
          rw [tcells_append, hnew]
          exact o)
      have HO := Lib.hid hoT
      clear hlk htk ow hgg hrc hcell t0 t1 t2 t3 t4 hx hbg hX hxst hxsz hnew is hg hoT
      have ik : (k : Int) < (n : Int) := by omega
      have ik0 : (0 : Int) ≤ (k : Int) := by omega
      go_wp2_with fail
      go_region_law (refine step_append_lies _ rfl (.tmp 39) (.tmp 45) 30 rfl w2.heap.size 74 i0 (.agg #[.string ⟨#[]⟩, .int .i64 0, .int .i64 0]) 3 32 Tryz.underlying30 hi hz0 hz1 hz2 rfl (by decide) (.slice va k vc) k (tcells ((L.take k).map tabW)) (by simp [Act.eval, Act.put]) (own_any HO.out (by first | exact (Below.refl _ _).drew.alloc (Nat.le_refl _) _ | exact ((Below.refl _ _).alloc (Nat.le_refl _) _).drew)) ⟨wr.heap.size, 0, none⟩ 1 1 [.string X, .int .i64 xst, .int .i64 xsz] (by simp [Act.eval, Act.put]) rfl (by first | exact newCellsAt _ _ _ _ rfl | exact fun j u h => newCells wr _ _ j u h) (fun x hx => by simp at hx; rcases hx with rfl | rfl | rfl <;> rfl) (by decide) (by unfold maxLen; omega) (by omega) (by simp; omega) _ rfl ?_; intro g3 k3 w3 o3' gr3 at3 lt3; have tr3 := HT3.out _ _ g3 k3 (by first | exact (Below.refl _ _).drew.alloc (Nat.le_refl _) _ | exact ((Below.refl _ _).alloc (Nat.le_refl _) _).drew) gr3 o3'; have d1 := cellsAt tr3.1.hr 1; have fd1 := frozenAt tr3.1.hr 1; simp only [List.getElem?_toArray, List.getElem?_cons_zero, List.getElem?_cons_succ] at d1; have TR3 := Lib.hid tr3; clear gr3 at3 lt3 o3' tr3)
      all_goals (
        clear y1 e1 c0 c1' c2' HT3 HO
        have j1 := TR3.out.1.set 1 (.slice (some ⟨g3, 0, none⟩) (k + 1) k3)
        have j2 := grown_set TR3.out.2.1 1 (.slice (some ⟨g3, 0, none⟩) (k + 1) k3)
        have j3 := TR3.out.2.2.kept (grown_set (World.grownBy.refl _ _) 1 (.slice (some ⟨g3, 0, none⟩) (k + 1) k3)) (.inr (own_kind_ne' TR3.out.2.2 TR3.out.1.hr (by decide)))
        have JJ := Lib.hid (And.intro j1 (And.intro j2 j3))
        clear j1 j2 j3 TR3
        go_wp2
        first
          | exact ⟨⟨k + 1, .slice (some ⟨g3, 0, none⟩) (k + 1) k3, by go_num, by omega, JJ.out.1, JJ.out.2.1, JJ.out.2.2⟩, by simp [intOf]; omega⟩
          | exact ⟨⟨k + 1, .slice (some ⟨g3, 0, none⟩) (k + 1) k3, by go_num, by omega, JJ.out.1.below (Below.refl _ _).drew, grown_trans JJ.out.2.1 (grown_below _ (Below.refl _ _).drew), own_any JJ.out.2.2 (Below.refl _ _).drew⟩, by simp [intOf]; omega⟩)
    · obtain ⟨va, vc, rfl⟩ := own_slice hoT
      have hkn : k = n := by omega
      subst hkn
      rw [List.take_of_length_le (by omega)] at is
      have ik : ¬ ((k : Int) < (k : Int)) := by omega
      clear hg hoT HI2 HOW
      have TT := Lib.hid (T1.out _ (HN.out.2.2.2.on is.bw))
      have p0 := cellsAt is.hp 0
      have p1 := cellsAt is.hp 1
      have p2 := cellsAt is.hp 2
      simp only [List.getElem?_toArray, List.getElem?_cons_zero, List.getElem?_cons_succ] at p0 p1 p2
      have HIS := Lib.hid is
      clear is
      go_wp2_with (go_at_call 36; refine TT.out.mono ?_; rintro e wt1 ⟨rfl, hbt⟩; refine Hid.out ?_)
      have is3 := HIS.out.below hbt
      clear p0 p1 p2 TT HIS hbt T1
      have a2 := cellsAt is3.hr 2
      have a3 := cellsAt is3.hr 3
      have a4 := cellsAt is3.hr 4
      have fa2 := frozenAt is3.hr 2
      have fa3 := frozenAt is3.hr 3
      have fa4 := frozenAt is3.hr 4
      simp only [List.getElem?_toArray, List.getElem?_cons_zero, List.getElem?_cons_succ] at a2 a3 a4
      obtain ⟨Ws1, hW4⟩ : ∃ W, ((wt1.setCell ⟨w1.heap.size, 2, none⟩ (.int .i64 (s1 : Int))).setCell ⟨w1.heap.size, 3, none⟩ (.int .i64 0)).setCell ⟨w1.heap.size, 4, none⟩ (.int .i64 0) = W := ⟨_, rfl⟩
      have is4 : IS w w1.heap.size #[.slice ta P.tags.length tc, .slice ia P.ids.length ic, .int .i64 P.text] #[.int .i64 (kd : Int), .slice va k vc, .int .i64 (s1 : Int), .int .i64 0, .int .i64 0, .int .i64 0, .int .i64 0, .int .i64 0, .int .i64 0, .slice none 0 0, .int .i64 0, .int .i64 0, .int .i64 0] (.slice va k vc) (.slice none 0 0) (L.map tabW) [] Ws1 := by rw [← hW4]; exact ((is3.set 2 _).set 3 _).set 4 _
      have HI4 := Lib.hid is4
      clear is3 is4
      refine Lib.hid ?_
      go_upto_if 59 with fail
      clear hW4 a2 fa2 a3 fa3 a4 fa4
      go_cut [14] (fun s14 wx => IS w w1.heap.size #[.slice ta P.tags.length tc, .slice ia P.ids.length ic, .int .i64 P.text] #[.int .i64 (kd : Int), .slice va k vc, .int .i64 (h1 : Int), .int .i64 (h2 : Int), .int .i64 (h3 : Int), .int .i64 0, .int .i64 0, .int .i64 0, .int .i64 0, .slice none 0 0, .int .i64 0, .int .i64 0, .int .i64 0] (.slice va k vc) (.slice none 0 0) (L.map tabW) [] wx)
      case first =>
        have hcc := HC.out.1
        by_cases hs : s1 = 0
        · rw [if_pos hs] at hcc
          have d0 : ((s1 : Int) == 0) = true := beq_iff_eq.2 (by omega)
          have CF := Lib.hid (headV b1 Ws1 (by omega))
          rw [hcc] at CF
          simp only at CF
          have HCC := Lib.hid hcc
          clear hcc
          go_wp2_with (go_at_call 37; refine CF.out.mono ?_; rintro e w5 ⟨rfl, hb5⟩; refine Hid.out ?_)
          have is5 := HI4.out.below hb5
          have a2 := cellsAt is5.hr 2
          have a3 := cellsAt is5.hr 3
          have a4 := cellsAt is5.hr 4
          have fa2 := frozenAt is5.hr 2
          have fa3 := frozenAt is5.hr 3
          have fa4 := frozenAt is5.hr 4
          simp only [List.getElem?_toArray, List.getElem?_cons_zero, List.getElem?_cons_succ] at a2 a3 a4
          have is6 := ((is5.set 2 (.int .i64 (h1 : Int))).set 3 (.int .i64 (h2 : Int))).set 4 (.int .i64 (h3 : Int))
          have HI6 := Lib.hid is6
          clear is5 is6 HI4
          refine Lib.hid ?_
          go_wp2_with fail
          go_meet
          exact HI6.out
        · rw [if_neg hs] at hcc
          have d0 : ¬ (s1 : Int) = 0 := by omega
          cases hcc
          go_wp2_with fail
          go_meet
          exact HI4.out
      case rest =>
        have is := hcut
        clear HI4 hcut
        have TT := Lib.hid (T2.out _ (HN.out.2.2.2.on is.bw))
        have p0 := cellsAt is.hp 0
        have p1 := cellsAt is.hp 1
        have p2 := cellsAt is.hp 2
        simp only [List.getElem?_toArray, List.getElem?_cons_zero, List.getElem?_cons_succ] at p0 p1 p2
        have HIS := Lib.hid is
        clear is
        go_wp2_with (go_at_call 36; refine TT.out.mono ?_; rintro e wt2 ⟨rfl, hbt⟩; refine Hid.out ?_)
        have is3 := HIS.out.below hbt
        clear p0 p1 p2 TT HIS hbt T2
        have a5 := cellsAt is3.hr 5
        have a6 := cellsAt is3.hr 6
        have a7 := cellsAt is3.hr 7
        have fa5 := frozenAt is3.hr 5
        have fa6 := frozenAt is3.hr 6
        have fa7 := frozenAt is3.hr 7
        simp only [List.getElem?_toArray, List.getElem?_cons_zero, List.getElem?_cons_succ] at a5 a6 a7
        obtain ⟨Ws2, hW4⟩ : ∃ W, ((wt2.setCell ⟨w1.heap.size, 5, none⟩ (.int .i64 (s2 : Int))).setCell ⟨w1.heap.size, 6, none⟩ (.int .i64 0)).setCell ⟨w1.heap.size, 7, none⟩ (.int .i64 0) = W := ⟨_, rfl⟩
        have is4 : IS w w1.heap.size #[.slice ta P.tags.length tc, .slice ia P.ids.length ic, .int .i64 P.text] #[.int .i64 (kd : Int), .slice va k vc, .int .i64 (h1 : Int), .int .i64 (h2 : Int), .int .i64 (h3 : Int), .int .i64 (s2 : Int), .int .i64 0, .int .i64 0, .int .i64 0, .slice none 0 0, .int .i64 0, .int .i64 0, .int .i64 0] (.slice va k vc) (.slice none 0 0) (L.map tabW) [] Ws2 := by rw [← hW4]; exact ((is3.set 5 _).set 6 _).set 7 _
        have HI4 := Lib.hid is4
        clear is3 is4
        refine Lib.hid ?_
        go_upto_if 74 with fail
        clear hW4 a5 fa5 a6 fa6 a7 fa7
        go_cut [14] (fun s14 wx => IS w w1.heap.size #[.slice ta P.tags.length tc, .slice ia P.ids.length ic, .int .i64 P.text] #[.int .i64 (kd : Int), .slice va k vc, .int .i64 (h1 : Int), .int .i64 (h2 : Int), .int .i64 (h3 : Int), .int .i64 (r1 : Int), .int .i64 (r2 : Int), .int .i64 (r3 : Int), .int .i64 0, .slice none 0 0, .int .i64 0, .int .i64 0, .int .i64 0] (.slice va k vc) (.slice none 0 0) (L.map tabW) [] wx)
        case first =>
          have hcc := HC.out.2.1
          by_cases hs : s2 = 0
          · rw [if_pos hs] at hcc
            have d0 : ((s2 : Int) == 0) = true := beq_iff_eq.2 (by omega)
            have CF := Lib.hid (rightsV b2 Ws2 l2)
            unfold strV at CF
            rw [hcc] at CF
            simp only at CF
            have HCC := Lib.hid hcc
            clear hcc
            go_wp2_with (go_at_call 38; refine CF.out.mono ?_; rintro e w5 ⟨rfl, hb5⟩; refine Hid.out ?_)
            have is5 := HI4.out.below hb5
            have a5 := cellsAt is5.hr 5
            have a6 := cellsAt is5.hr 6
            have a7 := cellsAt is5.hr 7
            have fa5 := frozenAt is5.hr 5
            have fa6 := frozenAt is5.hr 6
            have fa7 := frozenAt is5.hr 7
            simp only [List.getElem?_toArray, List.getElem?_cons_zero, List.getElem?_cons_succ] at a5 a6 a7
            have is6 := ((is5.set 5 (.int .i64 (r1 : Int))).set 6 (.int .i64 (r2 : Int))).set 7 (.int .i64 (r3 : Int))
            have HI6 := Lib.hid is6
            clear is5 is6 HI4
            refine Lib.hid ?_
            go_wp2_with fail
            go_meet
            exact HI6.out
          · rw [if_neg hs] at hcc
            have d0 : ¬ (s2 : Int) = 0 := by omega
            cases hcc
            go_wp2_with fail
            go_meet
            exact HI4.out
        case rest =>
          have is := hcut
          clear HI4 hcut
          have TT := Lib.hid (T3.out _ (HN.out.2.2.2.on is.bw))
          have p0 := cellsAt is.hp 0
          have p1 := cellsAt is.hp 1
          have p2 := cellsAt is.hp 2
          simp only [List.getElem?_toArray, List.getElem?_cons_zero, List.getElem?_cons_succ] at p0 p1 p2
          have HIS := Lib.hid is
          clear is
          go_wp2_with (go_at_call 36; refine TT.out.mono ?_; rintro e wt3 ⟨rfl, hbt⟩; refine Hid.out ?_)
          have is3 := HIS.out.below hbt
          clear p0 p1 p2 TT HIS hbt T3
          have a8 := cellsAt is3.hr 8
          have fa8 := frozenAt is3.hr 8
          simp only [List.getElem?_toArray, List.getElem?_cons_zero, List.getElem?_cons_succ] at a8
          obtain ⟨Ws3, hW4⟩ : ∃ W, wt3.setCell ⟨w1.heap.size, 8, none⟩ (.int .i64 (s3 : Int)) = W := ⟨_, rfl⟩
          have is4 : IS w w1.heap.size #[.slice ta P.tags.length tc, .slice ia P.ids.length ic, .int .i64 P.text] #[.int .i64 (kd : Int), .slice va k vc, .int .i64 (h1 : Int), .int .i64 (h2 : Int), .int .i64 (h3 : Int), .int .i64 (r1 : Int), .int .i64 (r2 : Int), .int .i64 (r3 : Int), .int .i64 (s3 : Int), .slice none 0 0, .int .i64 0, .int .i64 0, .int .i64 0] (.slice va k vc) (.slice none 0 0) (L.map tabW) [] Ws3 := by rw [← hW4]; exact is3.set 8 _
          have HI4 := Lib.hid is4
          clear is3 is4
          refine Lib.hid ?_
          go_upto_if 88 with fail
          clear hW4 a8 fa8
          go_cut [14] (fun s14 wx => IS w w1.heap.size #[.slice ta P.tags.length tc, .slice ia P.ids.length ic, .int .i64 P.text] #[.int .i64 (kd : Int), .slice va k vc, .int .i64 (h1 : Int), .int .i64 (h2 : Int), .int .i64 (h3 : Int), .int .i64 (r1 : Int), .int .i64 (r2 : Int), .int .i64 (r3 : Int), .int .i64 (nm : Int), .slice none 0 0, .int .i64 0, .int .i64 0, .int .i64 0] (.slice va k vc) (.slice none 0 0) (L.map tabW) [] wx)
          case first =>
            have hcc := HC.out.2.2.1
            by_cases hs : s3 = 0
            · rw [if_pos hs] at hcc
              have d0 : ((s3 : Int) == 0) = true := beq_iff_eq.2 (by omega)
              have CF := Lib.hid (namingV b3 Ws3 (by omega))
              rw [hcc] at CF
              clear hcc
              have a8 := cellsAt HI4.out.hr 8
              have fa8 := frozenAt HI4.out.hr 8
              simp only [List.getElem?_toArray, List.getElem?_cons_zero, List.getElem?_cons_succ] at a8
              go_wp2_with (go_at_call 39; refine CF.out.mono ?_; rintro e w5 ⟨rfl, hw5⟩; have hw5 := hw5.symm; subst hw5)
              go_meet
              exact HI4.out.set 8 _
            · rw [if_neg hs] at hcc
              have d0 : ¬ (s3 : Int) = 0 := by omega
              subst hcc
              go_wp2_with fail
              go_meet
              exact HI4.out
          case rest =>
            have is := hcut
            clear HI4 hcut
            have a8 := cellsAt is.hr 8
            have a9 := cellsAt is.hr 9
            have fa8 := frozenAt is.hr 8
            have fa9 := frozenAt is.hr 9
            simp only [List.getElem?_toArray, List.getElem?_cons_zero, List.getElem?_cons_succ] at a8 a9
            have p0 := cellsAt is.hp 0
            have p1 := cellsAt is.hp 1
            have p2 := cellsAt is.hp 2
            simp only [List.getElem?_toArray, List.getElem?_cons_zero, List.getElem?_cons_succ] at p0 p1 p2
            have HI4 := Lib.hid is
            clear is
            obtain ⟨Ws5, hWs5⟩ : ∃ W, W = wc := ⟨_, rfl⟩
            subst hWs5
            go_upto_if 94 with fail
            go_cut [] (fun wx => ∃ VN, IS w w1.heap.size #[.slice ta P.tags.length tc, .slice ia P.ids.length ic, .int .i64 P.text] #[.int .i64 (kd : Int), .slice va k vc, .int .i64 (h1 : Int), .int .i64 (h2 : Int), .int .i64 (h3 : Int), .int .i64 (r1 : Int), .int .i64 (r2 : Int), .int .i64 (r3 : Int), .int .i64 (nm : Int), VN, .int .i64 0, .int .i64 0, .int .i64 0] (.slice va k vc) (VN) (L.map tabW) ln wx)
            case first =>
              have hln := HC.out.2.2.2.1
              by_cases hs : nm = 0
              · rw [if_pos hs] at hln
                have d0 : (nm : Int) = 0 := by omega
                have hct : countL b3 6 12 = 0 := by
                  have h := HC.out.2.2.1
                  by_cases h3 : s3 = 0
                  · rw [if_pos h3] at h
                    omega
                  · rw [if_neg h3] at h
                    omega
                have hm : num2 b3 2 ≤ 20 ∧ 6 + 12 * num2 b3 2 ≤ b3.length := by
                  rcases countL_mem b3 6 12 with h | h
                  · omega
                  · rw [hct] at h
                    simp at h
                have hll : ln.length = num2 b3 2 := by rw [← hln]; unfold namesL; simp
                have CF := Lib.hid (allNamesV P (.slice ta P.tags.length tc) (.slice ia P.ids.length ic) b3 Ws5 (HN.out.2.2.2.on HI4.out.bw) h8i l3 (by omega) (num2 b3 2) rfl hm.2)
                rw [hln, ← hll] at CF
                unfold pv strV at CF
                clear hln hct hm hll
                go_wp2_with (go_at_call 40; refine CF.out.mono ?_; rintro e w5 ⟨v, rfl, hov, hb5⟩; obtain ⟨na, nc, rfl⟩ := own_slice hov; refine Hid.out ?_)
                have is5 := HI4.out.below hb5
                have is6 := (is5.names (Go.Proofs.YteibjmlimcpaoaaGreatDoor.W.own_lower hov (B' := w.heap.size) HI4.out.bw.size)).set 9 (.slice na ln.length nc)
                clear a8 fa8 a9 fa9 p0 p1 p2
                have a9 := cellsAt is5.hr 9
                have fa9 := frozenAt is5.hr 9
                simp only [List.getElem?_toArray, List.getElem?_cons_zero, List.getElem?_cons_succ] at a9
                have HI6 := Lib.hid is6
                clear is5 is6 HI4 hov hb5
                refine Lib.hid ?_
                go_wp2_with fail
                go_meet
                exact ⟨_, HI6.out⟩
              · rw [if_neg hs] at hln
                have d0 : ¬ (nm : Int) = 0 := by omega
                subst hln
                go_wp2_with fail
                go_meet
                exact ⟨_, HI4.out⟩
            case rest =>
              obtain ⟨VN, is⟩ := hcut
              clear HI4 a8 fa8 a9 fa9 p0 p1 p2
              obtain ⟨na, nc, rfl⟩ := own_slice is.oN
              have TT := Lib.hid (T4.out _ (HN.out.2.2.2.on is.bw))
              have p0 := cellsAt is.hp 0
              have p1 := cellsAt is.hp 1
              have p2 := cellsAt is.hp 2
              simp only [List.getElem?_toArray, List.getElem?_cons_zero, List.getElem?_cons_succ] at p0 p1 p2
              have HIS := Lib.hid is
              clear is
              go_wp2_with (go_at_call 36; refine TT.out.mono ?_; rintro e wt4 ⟨rfl, hbt⟩; refine Hid.out ?_)
              have is3 := HIS.out.below hbt
              clear p0 p1 p2 TT HIS hbt T4
              have a10 := cellsAt is3.hr 10
              have a11 := cellsAt is3.hr 11
              have a12 := cellsAt is3.hr 12
              have fa10 := frozenAt is3.hr 10
              have fa11 := frozenAt is3.hr 11
              have fa12 := frozenAt is3.hr 12
              simp only [List.getElem?_toArray, List.getElem?_cons_zero, List.getElem?_cons_succ] at a10 a11 a12
              obtain ⟨Ws4, hW4⟩ : ∃ W, ((wt4.setCell ⟨w1.heap.size, 10, none⟩ (.int .i64 (s4 : Int))).setCell ⟨w1.heap.size, 11, none⟩ (.int .i64 0)).setCell ⟨w1.heap.size, 12, none⟩ (.int .i64 0) = W := ⟨_, rfl⟩
              have is4 : IS w w1.heap.size #[.slice ta P.tags.length tc, .slice ia P.ids.length ic, .int .i64 P.text] #[.int .i64 (kd : Int), .slice va k vc, .int .i64 (h1 : Int), .int .i64 (h2 : Int), .int .i64 (h3 : Int), .int .i64 (r1 : Int), .int .i64 (r2 : Int), .int .i64 (r3 : Int), .int .i64 (nm : Int), .slice na ln.length nc, .int .i64 (s4 : Int), .int .i64 0, .int .i64 0] (.slice va k vc) (.slice na ln.length nc) (L.map tabW) ln Ws4 := by rw [← hW4]; exact ((is3.set 10 _).set 11 _).set 12 _
              have HI4 := Lib.hid is4
              clear is3 is4
              refine Lib.hid ?_
              go_upto_if 110 with fail
              clear hW4 a10 fa10 a11 fa11 a12 fa12
              go_cut [14] (fun s14 wx => IS w w1.heap.size #[.slice ta P.tags.length tc, .slice ia P.ids.length ic, .int .i64 P.text] #[.int .i64 (kd : Int), .slice va k vc, .int .i64 (h1 : Int), .int .i64 (h2 : Int), .int .i64 (h3 : Int), .int .i64 (r1 : Int), .int .i64 (r2 : Int), .int .i64 (r3 : Int), .int .i64 (nm : Int), .slice na ln.length nc, .int .i64 (c1 : Int), .int .i64 (c2 : Int), .int .i64 c3] (.slice va k vc) (.slice na ln.length nc) (L.map tabW) ln wx)
              case first =>
                have hcc := HC.out.2.2.2.2
                by_cases hs : s4 = 0
                · rw [if_pos hs] at hcc
                  have d0 : ((s4 : Int) == 0) = true := beq_iff_eq.2 (by omega)
                  have CF := Lib.hid (coverV b4 Ws4 l4 (c1 : Int) (c2 : Int) c3 (by rw [hcc]) (by rw [hcc]) (by rw [hcc]))
                  unfold strV at CF
                  have HCC := Lib.hid hcc
                  clear hcc
                  go_wp2_with (go_at_call 41; refine CF.out.mono ?_; rintro e w5 ⟨rfl, hb5⟩; refine Hid.out ?_)
                  have is5 := HI4.out.below hb5
                  have a10 := cellsAt is5.hr 10
                  have a11 := cellsAt is5.hr 11
                  have a12 := cellsAt is5.hr 12
                  have fa10 := frozenAt is5.hr 10
                  have fa11 := frozenAt is5.hr 11
                  have fa12 := frozenAt is5.hr 12
                  simp only [List.getElem?_toArray, List.getElem?_cons_zero, List.getElem?_cons_succ] at a10 a11 a12
                  have is6 := ((is5.set 10 (.int .i64 (c1 : Int))).set 11 (.int .i64 (c2 : Int))).set 12 (.int .i64 c3)
                  have HI6 := Lib.hid is6
                  clear is5 is6 HI4
                  refine Lib.hid ?_
                  go_wp2_with fail
                  go_meet
                  exact HI6.out
                · rw [if_neg hs] at hcc
                  have d0 : ¬ (s4 : Int) = 0 := by omega
                  cases hcc
                  go_wp2_with fail
                  go_meet
                  exact HI4.out
              case rest =>
                have is := hcut
                clear HI4 hcut
                have a0 := cellsAt is.hr 0
                have a1 := cellsAt is.hr 1
                have a2 := cellsAt is.hr 2
                have a3 := cellsAt is.hr 3
                have a4 := cellsAt is.hr 4
                have a5 := cellsAt is.hr 5
                have a6 := cellsAt is.hr 6
                have a7 := cellsAt is.hr 7
                have a8 := cellsAt is.hr 8
                have a9 := cellsAt is.hr 9
                have a10 := cellsAt is.hr 10
                have a11 := cellsAt is.hr 11
                have a12 := cellsAt is.hr 12
                have fa0 := frozenAt is.hr 0
                have fa1 := frozenAt is.hr 1
                have fa2 := frozenAt is.hr 2
                have fa3 := frozenAt is.hr 3
                have fa4 := frozenAt is.hr 4
                have fa5 := frozenAt is.hr 5
                have fa6 := frozenAt is.hr 6
                have fa7 := frozenAt is.hr 7
                have fa8 := frozenAt is.hr 8
                have fa9 := frozenAt is.hr 9
                have fa10 := frozenAt is.hr 10
                have fa11 := frozenAt is.hr 11
                have fa12 := frozenAt is.hr 12
                simp only [List.getElem?_toArray, List.getElem?_cons_zero, List.getElem?_cons_succ] at a0 a1 a2 a3 a4 a5 a6 a7 a8 a9 a10 a11 a12
                have o0 := cellsAt is.ho 0
                have o1 := cellsAt is.ho 1
                have o2 := cellsAt is.ho 2
                have o3 := cellsAt is.ho 3
                have o4 := cellsAt is.ho 4
                have o5 := cellsAt is.ho 5
                have o6 := cellsAt is.ho 6
                have o7 := cellsAt is.ho 7
                have o8 := cellsAt is.ho 8
                have o9 := cellsAt is.ho 9
                have o10 := cellsAt is.ho 10
                have o11 := cellsAt is.ho 11
                have o12 := cellsAt is.ho 12
                have fo0 := frozenAt is.ho 0
                have fo1 := frozenAt is.ho 1
                have fo2 := frozenAt is.ho 2
                have fo3 := frozenAt is.ho 3
                have fo4 := frozenAt is.ho 4
                have fo5 := frozenAt is.ho 5
                have fo6 := frozenAt is.ho 6
                have fo7 := frozenAt is.ho 7
                have fo8 := frozenAt is.ho 8
                have fo9 := frozenAt is.ho 9
                have fo10 := frozenAt is.ho 10
                have fo11 := frozenAt is.ho 11
                have fo12 := frozenAt is.ho 12
                simp only [List.getElem?_toArray, List.getElem?_cons_zero, List.getElem?_cons_succ] at o0 o1 o2 o3 o4 o5 o6 o7 o8 o9 o10 o11 o12
                have hzz := endV (w := w) [.int .i64 (kd : Int), .slice va k vc, .int .i64 (h1 : Int), .int .i64 (h2 : Int), .int .i64 (h3 : Int), .int .i64 (r1 : Int), .int .i64 (r2 : Int), .int .i64 (r3 : Int), .int .i64 (nm : Int), .slice na ln.length nc, .int .i64 (c1 : Int), .int .i64 (c2 : Int), .int .i64 c3] is.ho rfl (by omega) is.bw
                have gg := Go.Proofs.YteibjmlimcpaoaaGreatDoor.W.gsA (w.heap.size + 1) [.int .i64 (kd : Int), .slice va k vc, .int .i64 (h1 : Int), .int .i64 (h2 : Int), .int .i64 (h3 : Int), .int .i64 (r1 : Int), .int .i64 (r2 : Int), .int .i64 (r3 : Int), .int .i64 (nm : Int), .slice na ln.length nc, .int .i64 (c1 : Int), .int .i64 (c2 : Int), .int .i64 c3] 0 wc wc (World.grownBy.refl _ _)
                have q1 := is.oT.kept gg (.inr (own_kind_ne' is.oT is.ho (by decide)))
                have q2 := is.oN.kept gg (.inr (own_kind_ne' is.oN is.ho (by decide)))
                have hll : (L.map tabW).length = k := by rw [List.length_map]; omega
                simp only [setAll, Nat.zero_add, Nat.reduceAdd] at hzz q1 q2
                have v0 := cellsAt hzz.1 0
                have v1 := cellsAt hzz.1 1
                have v2 := cellsAt hzz.1 2
                have v3 := cellsAt hzz.1 3
                have v4 := cellsAt hzz.1 4
                have v5 := cellsAt hzz.1 5
                have v6 := cellsAt hzz.1 6
                have v7 := cellsAt hzz.1 7
                have v8 := cellsAt hzz.1 8
                have v9 := cellsAt hzz.1 9
                have v10 := cellsAt hzz.1 10
                have v11 := cellsAt hzz.1 11
                have v12 := cellsAt hzz.1 12
                simp only [List.getElem?_toArray, List.getElem?_cons_zero, List.getElem?_cons_succ] at v0 v1 v2 v3 v4 v5 v6 v7 v8 v9 v10 v11 v12
                have VV := Lib.hid (And.intro (And.intro v0 (And.intro v1 (And.intro v2 (And.intro v3 (And.intro v4 (And.intro v5 (And.intro v6 v7))))))) (And.intro (And.intro v8 (And.intro v9 (And.intro v10 (And.intro v11 v12)))) (And.intro hzz.2 (And.intro q1 q2))))
                have hne : w.heap.size + 1 ≠ w1.heap.size := by have := is.h1; omega
                clear v0 v1 v2 v3 v4 v5 v6 v7 v8 v9 v10 v11 v12 hzz q1 q2 gg is
                go_wp2
                obtain ⟨⟨v0, v1, v2, v3, v4, v5, v6, v7⟩, ⟨v8, v9, v10, v11, v12⟩, z1, z2, z3⟩ := VV.out
                exact bodyPost_ret (v := .tuple #[.agg #[.int .i64 (kd : Int), .slice va k vc, .int .i64 (h1 : Int), .int .i64 (h2 : Int), .int .i64 (h3 : Int), .int .i64 (r1 : Int), .int .i64 (r2 : Int), .int .i64 (r3 : Int), .int .i64 (nm : Int), .slice na ln.length nc, .int .i64 (c1 : Int), .int .i64 (c2 : Int), .int .i64 c3], .int .i64 0]) (by simp [results, Tryz.results14, go_sem, v0, v1, v2, v3, v4, v5, v6, v7, v8, v9, v10, v11, v12]) rfl ⟨.slice va k vc, .slice na ln.length nc, rfl, z2, z3, z1⟩
end Go.Proofs.YteibjmlimcpaoaaGreatDoor.V
